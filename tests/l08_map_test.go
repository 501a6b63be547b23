package tests

import (
	"bytes"
	"fmt"
	"maps"
	"math"
	"slices"
	"testing"

	"loop.example/g00528/impl"
)

func in(sector int, index int) impl.Place {
	return impl.Place{Sector: sector, Index: index}
}

func mapOf(l ...impl.Place) impl.Map {
	return impl.Map{L: l}
}

func sameMap(a impl.Map, b impl.Map) bool {
	return slices.Equal(a.L, b.L)
}

// scattered has n places in some sectors; a few are nowhere, and no two of the others are alike.
func scattered(n int, seed uint64) impl.Map {
	return scatteredIn(n, impl.MaxRaw, seed)
}

func scatteredIn(n int, raws int, seed uint64) impl.Map {
	var m impl.Map
	sectors, indexes := picked(n, raws-1, seed), picked(n, impl.MaxAddr-1, seed+77)
	for i := range n {
		w := in(sectors[i], indexes[i])
		if w.Sector < 2 || slices.Contains(m.L, w) {
			w = in(0, 0)
		}
		m.L = append(m.L, w)
	}
	return m
}

// together has n places in one sector, the last address first.
func together(n int, sector int) impl.Map {
	var m impl.Map
	for i := range n {
		m.L = append(m.L, in(sector, n-1-i))
	}
	return m
}

func slowPlaceOk(w impl.Place) bool {
	return w.Sector == 0 && w.Index == 0 || w.Sector >= 2 && w.Sector <= 23 && w.Index >= 0 && w.Index <= 15
}

func slowMapOk(m impl.Map) bool {
	for i, w := range m.L {
		if !slowPlaceOk(w) {
			return false
		}
		for _, v := range m.L[i+1:] {
			if w.Sector != 0 && w.Sector == v.Sector && w.Index == v.Index {
				return false
			}
		}
	}
	return len(m.L) >= 1 && len(m.L) <= 16
}

func slowLive(m impl.Map, sector int) []int {
	l := []int{}
	for addr, w := range m.L {
		if w.Sector == sector && sector != 0 {
			l = append(l, addr)
		}
	}
	return l
}

// slowApply asks for each address what the pack has of it.
func slowApply(m impl.Map, sector int, p impl.Pack) (impl.Map, bool) {
	if !slowMapOk(m) || !slowPackOk(p) || sector < 2 || sector > 23 || len(slowLive(m, sector)) > 0 {
		return impl.Map{}, false
	}
	var now impl.Map
	for addr, w := range m.L {
		for i, x := range p.Items {
			if x.Addr == addr && len(x.Blob) == 0 {
				w = in(0, 0)
			} else if x.Addr == addr {
				w = in(sector, i)
			}
		}
		now.L = append(now.L, w)
	}
	return now, true
}

// slowSuperBytes takes what is right, and puts each byte at its place.
func slowSuperBytes(epoch int, m impl.Map) []byte {
	b := make([]byte, 256)
	b[0] = 'S'
	b[1], b[2] = byte(epoch/256), byte(epoch%256)
	b[3] = byte(len(m.L))
	for i, w := range m.L {
		b[4+2*i], b[5+2*i] = byte(w.Sector), byte(w.Index)
	}
	return b
}

func slowSuperRead(b []byte) (int, impl.Map, bool) {
	if len(b) != 256 || b[0] != 'S' || b[3] > 16 {
		return 0, impl.Map{}, false
	}
	epoch := 256*int(b[1]) + int(b[2])
	end := 4 + 2*int(b[3])
	var m impl.Map
	for i := 4; i < end; i += 2 {
		m.L = append(m.L, in(int(b[i]), int(b[i+1])))
	}
	if epoch > 60000 || !slowMapOk(m) || bytes.Count(b[end:], []byte{0}) != 256-end {
		return 0, impl.Map{}, false
	}
	return epoch, m, true
}

func slowNewest(a []byte, b []byte) (int, impl.Map, bool) {
	best, m, found := 0, impl.Map{}, false
	for _, sector := range [][]byte{b, a} {
		epoch, saved, ok := slowSuperRead(sector)
		if ok && (!found || epoch >= best) {
			best, m, found = epoch, saved, true
		}
	}
	return best, m, found
}

func wantMap(t *testing.T, name string, got impl.Map, ok bool, want impl.Map) {
	t.Helper()
	if !ok || !sameMap(got, want) {
		t.Fatalf("%s: %v, %v, want %v, true", name, got, ok, want)
	}
	if !impl.MapOk(got) {
		t.Fatalf("%s: %v is not MapOk", name, got)
	}
}

func wantNoMap(t *testing.T, name string, got impl.Map, ok bool) {
	t.Helper()
	if ok || len(got.L) != 0 {
		t.Fatalf("%s: %v, %v, want the zero value and false", name, got, ok)
	}
}

func wantSaved(t *testing.T, name string, epoch int, m impl.Map, ok bool, wantEpoch int, want impl.Map) {
	t.Helper()
	if epoch != wantEpoch {
		t.Fatalf("%s: the epoch is %d, want %d", name, epoch, wantEpoch)
	}
	wantMap(t, name, m, ok, want)
}

func wantNotSaved(t *testing.T, name string, epoch int, m impl.Map, ok bool) {
	t.Helper()
	if ok || epoch != 0 || len(m.L) != 0 {
		t.Fatalf("%s: %d, %v, %v, want zeros and false", name, epoch, m, ok)
	}
}

func wantWhere(t *testing.T, name string, m impl.Map, addr int, want impl.Place, wantThere bool) {
	t.Helper()
	if w, there := impl.MapGet(m, addr); w != want || there != wantThere {
		t.Fatalf("%s: MapGet of %v at %d: %v %v, want %v %v", name, m, addr, w, there, want, wantThere)
	}
}

func wantLive(t *testing.T, name string, m impl.Map, sector int, want []int) {
	t.Helper()
	if l := impl.MapLive(m, sector); !slices.Equal(l, want) {
		t.Fatalf("%s: MapLive of %v at %d: %v, want %v", name, m, sector, l, want)
	}
}

// anySectors are all that a place may have, those beside them, and others far off.
func anySectors() []int {
	all := []int{math.MinInt, -258, -256, -2, -1}
	return append(append(all, upTo(impl.MaxRaw+2)...), 254, 255, 256, 257, 258, 279, 280, 1<<40+2, math.MaxInt)
}

func anyIndexes() []int {
	all := []int{math.MinInt, -256, -255, -16, -2, -1}
	return append(append(all, upTo(impl.MaxAddr+2)...), 255, 256, 257, 271, 272, 1<<40, math.MaxInt)
}

func wrongPlaces() []impl.Place {
	all := []impl.Place{}
	for _, sector := range anySectors() {
		for _, index := range anyIndexes() {
			if w := in(sector, index); !slowPlaceOk(w) {
				all = append(all, w)
			}
		}
	}
	return all
}

// wrongMaps are not MapOk, nearly all for one reason alone.
func wrongMaps() map[string]impl.Map {
	all := map[string]impl.Map{
		"the zero value":            {},
		"an empty list":             mapOf([]impl.Place{}...),
		"MaxAddr + 1 nowhere":       mapOf(make([]impl.Place, impl.MaxAddr+1)...),
		"many nowhere":              mapOf(make([]impl.Place, 1000)...),
		"256 + 3 nowhere":           mapOf(make([]impl.Place, 256+3)...),
		"MaxAddr + 1 somewhere":     mapOf(append(together(impl.MaxAddr, 5).L, in(6, 0))...),
		"MaxAddr, and one nowhere":  mapOf(append(together(impl.MaxAddr, 5).L, in(0, 0))...),
		"all alike":                 mapOf(slices.Repeat([]impl.Place{in(5, 3)}, impl.MaxAddr)...),
		"the first and the last":    mapOf(append(together(impl.MaxAddr-1, 5).L, in(5, impl.MaxAddr-2))...),
		"the greatest ones alike":   mapOf(in(23, 15), in(0, 0), in(23, 15)),
		"the least ones alike":      mapOf(in(2, 0), in(2, 0)),
		"alike behind others":       mapOf(in(3, 1), in(4, 1), in(3, 2), in(0, 0), in(4, 1)),
		"none right, too many":      mapOf(slices.Repeat([]impl.Place{in(1, 0)}, impl.MaxAddr+1)...),
		"an Index of nowhere alone": mapOf(in(0, 1)),
		"a Sector of a saved map":   mapOf(in(1, 0)),
	}
	for _, w := range wrongPlaces() {
		all[fmt.Sprintf("%v alone", w)] = mapOf(w)
	}
	near := []impl.Place{in(0, 1), in(1, 0), in(1, 1), in(-1, 0), in(24, 0), in(258, 0), in(2, -1), in(2, 16), in(23, 16), in(0, -1), in(0, 256)}
	for i := range 4 {
		for _, w := range near {
			m := mapOf(in(5, 1), in(0, 0), in(7, 2), in(5, 0))
			m.L[i] = w
			all[fmt.Sprintf("%v at %d", w, i)] = m
		}
		for j := range i {
			m := mapOf(in(5, 1), in(5, 2), in(7, 2), in(7, 1))
			m.L[i] = m.L[j]
			all[fmt.Sprintf("%d and %d are alike", j, i)] = m
		}
	}
	return all
}

// rightMaps have one place, some, and the most: nowhere, in one sector, in sectors of their own, at the least and the greatest.
func rightMaps() []impl.Map {
	all := []impl.Map{
		mapOf(in(2, 0)),
		mapOf(in(2, 15)),
		mapOf(in(23, 0)),
		mapOf(in(23, 15)),
		mapOf(in(0, 0), in(2, 0), in(0, 0), in(0, 0)),
		mapOf(in(2, 1), in(3, 1), in(2, 0), in(0, 0), in(3, 0)),
		mapOf(in(23, 15), in(2, 0), in(23, 0), in(2, 15)),
	}
	for _, n := range []int{1, 2, 3, 15, 16} {
		all = append(all, mapOf(make([]impl.Place, n)...), together(n, 2), together(n, 9), together(n, 23))
		var m impl.Map
		for i := range n {
			m.L = append(m.L, in(23-i, 7))
		}
		all = append(all, m)
		for seed := range uint64(6) {
			all = append(all, scattered(n, seed))
		}
	}
	return all
}

// mapPacks have no Items, some, and all; with Blobs and without.
func mapPacks() []impl.Pack {
	all := []impl.Pack{{}, packOf(impl.MaxEpoch, impl.MaxEpoch), crowded(1), crowded(2), crowded(15), crowded(16), sized(make([]int, 16)...), sized(65, 0, 65, 47), sized(0, 2, 0, 2, 0, 2)}
	for addr := range impl.MaxAddr {
		all = append(all, packOf(1, 2, impl.Item{Addr: addr}), packOf(1, 2, impl.Item{Addr: addr, Blob: runOf(3)}))
	}
	for seed := range uint64(12) {
		p := packOf(int(seed), 7)
		for i, kind := range picked(impl.MaxAddr, 3, seed) {
			x := impl.Item{Addr: (5*i + int(seed)) % impl.MaxAddr}
			if kind == 0 {
				continue
			}
			if kind > 1 {
				x.Blob = runOf(i)
			}
			p.Items = append(p.Items, x)
		}
		all = append(all, p)
	}
	return all
}

// fewWrongPacks leave away those that differ in a wrong Item alone.
func fewWrongPacks() map[string]impl.Pack {
	return map[string]impl.Pack{
		"no blob":           packOf(0, 0, impl.Item{Addr: 1, Blob: []byte{9, 9}}),
		"one byte alone":    packOf(0, 0, impl.Item{Addr: 1}, impl.Item{Addr: 2, Blob: []byte{1}}),
		"Addr MaxAddr":      packOf(0, 0, impl.Item{Addr: impl.MaxAddr}),
		"Addr -1":           packOf(0, 0, impl.Item{Addr: -1, Blob: runOf(1)}),
		"one Addr twice":    packOf(0, 0, impl.Item{Addr: 3, Blob: runOf(1)}, impl.Item{Addr: 3}),
		"Epoch -1":          packOf(-1, 0),
		"Order -1":          packOf(0, -1),
		"Epoch too great":   packOf(impl.MaxEpoch+1, 0),
		"Order too great":   packOf(0, impl.MaxEpoch+1),
		"one byte too long": sized(65, 65, 65, 48),
		"too many Items":    sized(make([]int, impl.MaxAddr+1)...),
	}
}

func TestMapOk(t *testing.T) {
	for _, m := range rightMaps() {
		if !slowMapOk(m) || !impl.MapOk(m) {
			t.Fatalf("%v: %v, not MapOk", m, slowMapOk(m))
		}
	}
	for name, m := range wrongMaps() {
		if slowMapOk(m) || impl.MapOk(m) {
			t.Fatalf("%s: %v is MapOk", name, m)
		}
	}
}

func TestMapOkOfEachPlace(t *testing.T) {
	for _, sector := range anySectors() {
		for _, index := range anyIndexes() {
			w := in(sector, index)
			for _, m := range []impl.Map{mapOf(w), mapOf(in(0, 0), w), mapOf(w, in(4, 4)), mapOf(in(4, 4), in(0, 0), w)} {
				if impl.MapOk(m) != slowMapOk(m) {
					t.Fatalf("MapOk of %v is %v", m, impl.MapOk(m))
				}
			}
		}
	}
}

// All lists of up to four of a few places: which are alike, and which are nowhere, at each number.
func TestMapOkOfAlikeOnes(t *testing.T) {
	few := []impl.Place{in(0, 0), in(2, 0), in(2, 1), in(3, 0), in(23, 15), in(0, 1), in(1, 0)}
	right := 0
	for n := range 5 {
		eachList(n, upTo(len(few)-1), func(which []int) {
			var m impl.Map
			for _, i := range which {
				m.L = append(m.L, few[i])
			}
			if impl.MapOk(m) != slowMapOk(m) {
				t.Fatalf("MapOk of %v is %v", m, impl.MapOk(m))
			}
			if slowMapOk(m) {
				right++
			}
		})
	}
	if right < 200 {
		t.Fatalf("only %d are right", right)
	}
}

func TestMapNew(t *testing.T) {
	for n := 1; n <= impl.MaxAddr; n++ {
		m, ok := impl.MapNew(n)
		wantMap(t, fmt.Sprint("MapNew of ", n), m, ok, mapOf(make([]impl.Place, n)...))
		for addr := -1; addr <= n; addr++ {
			wantWhere(t, "a new one", m, addr, in(0, 0), false)
		}
		for _, sector := range anySectors() {
			wantLive(t, "a new one", m, sector, nil)
		}
	}
	for _, n := range []int{math.MinInt, -256, -16, -2, -1, 0, impl.MaxAddr + 1, impl.MaxAddr + 2, 256, 257, 1 << 40, math.MaxInt} {
		m, ok := impl.MapNew(n)
		wantNoMap(t, fmt.Sprint("MapNew of ", n), m, ok)
	}
}

func TestMapGet(t *testing.T) {
	for _, m := range rightMaps() {
		for addr, w := range m.L {
			wantWhere(t, "a right one", m, addr, w, w.Sector != 0)
		}
		last := len(m.L) - 1
		for _, addr := range []int{math.MinInt, -256, -last - 1, -1, last + 1, last + 2, 256, 256 + last, 1 << 40, math.MaxInt} {
			wantWhere(t, "no such address", m, addr, in(0, 0), false)
		}
	}
	wantWhere(t, "by hand", mapOf(in(0, 0), in(2, 0), in(23, 15)), 0, in(0, 0), false)
	wantWhere(t, "by hand", mapOf(in(0, 0), in(2, 0), in(23, 15)), 1, in(2, 0), true)
	wantWhere(t, "by hand", mapOf(in(0, 0), in(2, 0), in(23, 15)), 2, in(23, 15), true)
}

func TestMapLive(t *testing.T) {
	for _, m := range rightMaps() {
		seen := []int{}
		for _, sector := range anySectors() {
			wantLive(t, "a right one", m, sector, slowLive(m, sector))
			seen = append(seen, impl.MapLive(m, sector)...)
		}
		for addr, w := range m.L {
			if slices.Contains(seen, addr) != (w != in(0, 0)) {
				t.Fatalf("%v: %d is told, or is not: %v", m, addr, seen)
			}
		}
	}
	m := mapOf(in(5, 9), in(0, 0), in(23, 1), in(5, 0), in(2, 1), in(5, 15))
	wantLive(t, "by hand", m, 5, []int{0, 3, 5})
	wantLive(t, "by hand", m, 23, []int{2})
	wantLive(t, "by hand", m, 2, []int{4})
	wantLive(t, "nowhere is no sector", m, 0, nil)
	wantLive(t, "a saved map", m, 1, nil)
	wantLive(t, "nobody", m, 6, nil)
	wantLive(t, "all", together(16, 9), 9, upTo(15))
}

// What is told does not hang on the order in which something is gone through.
func TestMapsTellTheSameAgain(t *testing.T) {
	for _, m := range rightMaps() {
		for sector := range impl.MaxRaw {
			for range 10 {
				wantLive(t, "again", m, sector, slowLive(m, sector))
			}
		}
	}
}

func TestWrongMapsAreRefused(t *testing.T) {
	for name, m := range wrongMaps() {
		for addr := -1; addr <= impl.MaxAddr; addr++ {
			wantWhere(t, name, m, addr, in(0, 0), false)
		}
		for _, sector := range []int{-1, 0, 1, 2, 3, 5, 7, 9, 23, 24} {
			wantLive(t, name, m, sector, nil)
			for _, p := range []impl.Pack{{}, crowded(1), crowded(16), sized(0)} {
				got, ok := impl.MapApply(m, sector, p)
				wantNoMap(t, name, got, ok)
			}
		}
		for _, epoch := range []int{-1, 0, 1, 258, impl.MaxEpoch, impl.MaxEpoch + 1} {
			b, ok := impl.SuperBytes(epoch, m)
			wantNoBytes(t, name, b, ok)
		}
	}
}

// stillThere looks at all addresses that no Item has: they are where they were.
func stillThere(t *testing.T, name string, was impl.Map, is impl.Map, p impl.Pack) {
	t.Helper()
	for addr := range is.L {
		if slices.ContainsFunc(p.Items, func(x impl.Item) bool { return x.Addr == addr }) {
			continue
		}
		w, there := impl.MapGet(was, addr)
		wantWhere(t, name+": another one", is, addr, w, there)
	}
}

// applyHolds holds what MapApply tells against the model, and what is found then at each address against the pack and what was there.
func applyHolds(t *testing.T, m impl.Map, sector int, p impl.Pack) bool {
	t.Helper()
	name := fmt.Sprintf("MapApply of %v at %d to %v", p, sector, m)
	got, ok := impl.MapApply(m, sector, p)
	want, right := slowApply(m, sector, p)
	if !right {
		wantNoMap(t, name, got, ok)
		return false
	}
	wantMap(t, name, got, ok, want)
	put := []int{}
	for i, x := range p.Items {
		if x.Addr >= len(m.L) || len(x.Blob) == 0 {
			wantWhere(t, name+": nothing", got, x.Addr, in(0, 0), false)
			continue
		}
		wantWhere(t, name+": put", got, x.Addr, in(sector, i), true)
		put = append(put, x.Addr)
	}
	slices.Sort(put)
	wantLive(t, name, got, sector, put)
	stillThere(t, name, m, got, p)
	return true
}

func TestMapApplyIsFound(t *testing.T) {
	taken, refused := 0, 0
	for _, m := range rightMaps() {
		for _, p := range mapPacks() {
			for _, sector := range []int{-1, 0, 1, 2, 3, 9, 17, 22, 23, 24} {
				if applyHolds(t, m, sector, p) {
					taken++
				} else {
					refused++
				}
			}
		}
	}
	if taken < 10000 || refused < 10000 {
		t.Fatalf("%d taken, %d refused", taken, refused)
	}
}

func TestMapApplyAtEachSector(t *testing.T) {
	for _, sector := range anySectors() {
		for _, m := range []impl.Map{mapOf(in(0, 0)), mapOf(in(4, 4), in(0, 0)), mapOf(in(2, 0), in(23, 15), in(0, 0))} {
			for _, p := range []impl.Pack{{}, sized(2), sized(0, 2, 2)} {
				applyHolds(t, m, sector, p)
			}
		}
	}
	for _, sector := range []int{2, 23} {
		m, ok := impl.MapApply(mapOf(in(0, 0)), sector, sized(2))
		wantMap(t, "an edge", m, ok, mapOf(in(sector, 0)))
	}
	for _, sector := range []int{0, 1, 24} {
		m, ok := impl.MapApply(mapOf(in(0, 0)), sector, sized(2))
		wantNoMap(t, "behind an edge", m, ok)
	}
}

// What the document says is written out here by hand.
func TestMapApplyByHand(t *testing.T) {
	m := mapOf(in(5, 0), in(0, 0), in(7, 3), in(5, 1))
	item := func(addr int, blob []byte) impl.Item { return impl.Item{Addr: addr, Blob: blob} }
	for _, c := range []struct {
		name   string
		sector int
		p      impl.Pack
		want   impl.Map
	}{
		{"no Items", 6, packOf(1, 2), m},
		{"one that was nowhere", 6, packOf(1, 2, item(1, runOf(1))), mapOf(in(5, 0), in(6, 0), in(7, 3), in(5, 1))},
		{"one that is moved from another sector", 6, packOf(1, 2, item(2, runOf(1))), mapOf(in(5, 0), in(0, 0), in(6, 0), in(5, 1))},
		{"some, in another order", 2, packOf(1, 2, item(3, runOf(1)), item(0, runOf(1)), item(1, runOf(1))), mapOf(in(2, 1), in(2, 2), in(7, 3), in(2, 0))},
		{"an empty one that was somewhere", 6, packOf(1, 2, item(0, nil)), mapOf(in(0, 0), in(0, 0), in(7, 3), in(5, 1))},
		{"an empty list that was somewhere", 6, packOf(1, 2, item(2, []byte{})), mapOf(in(5, 0), in(0, 0), in(0, 0), in(5, 1))},
		{"an empty one that was nowhere", 6, packOf(1, 2, item(1, nil)), m},
		{"the last address", 23, packOf(1, 2, item(3, runOf(1))), mapOf(in(5, 0), in(0, 0), in(7, 3), in(23, 0))},
		{"one behind the last address", 23, packOf(1, 2, item(4, runOf(1))), m},
		{"an empty one behind the last", 23, packOf(1, 2, item(4, nil)), m},
		{"those that there are not count for the numbers", 8, packOf(1, 2, item(15, runOf(1)), item(4, nil), item(1, runOf(1))), mapOf(in(5, 0), in(8, 2), in(7, 3), in(5, 1))},
		{"empty ones count for the numbers", 8, packOf(1, 2, item(0, nil), item(1, nil), item(2, runOf(1))), mapOf(in(0, 0), in(0, 0), in(8, 2), in(5, 1))},
		{"all", 8, packOf(1, 2, item(0, runOf(1)), item(1, nil), item(2, runOf(1)), item(3, runOf(1))), mapOf(in(8, 0), in(0, 0), in(8, 2), in(8, 3))},
		{"MaxAddr Items", 8, crowded(16), mapOf(in(8, 15), in(8, 14), in(8, 13), in(8, 12))},
	} {
		got, ok := impl.MapApply(m, c.sector, c.p)
		wantMap(t, c.name, got, ok, c.want)
		applyHolds(t, m, c.sector, c.p)
	}
}

// An address at the sector refuses all, though the pack might move just this one, or has nothing.
func TestMapApplyWhereSomebodyIs(t *testing.T) {
	m := mapOf(in(5, 4), in(0, 0), in(23, 15), in(2, 0))
	for _, sector := range []int{5, 23, 2} {
		for _, p := range mapPacks() {
			got, ok := impl.MapApply(m, sector, p)
			wantNoMap(t, fmt.Sprint("somebody is at ", sector), got, ok)
		}
	}
	left, ok := impl.MapApply(m, 6, packOf(1, 2, impl.Item{Addr: 0}))
	wantMap(t, "trimmed", left, ok, mapOf(in(0, 0), in(0, 0), in(23, 15), in(2, 0)))
	again, ok := impl.MapApply(left, 5, sized(0, 2))
	wantMap(t, "nobody is there any more", again, ok, mapOf(in(0, 0), in(5, 1), in(23, 15), in(2, 0)))
	twice, ok := impl.MapApply(again, 5, sized(0, 2))
	wantNoMap(t, "the same pack twice", twice, ok)
	same, ok := impl.MapApply(left, 6, sized(0))
	wantMap(t, "an empty pack's sector stays free", same, ok, left)
}

func TestMapApplyRefusesWrongPacks(t *testing.T) {
	for name, p := range wrongPacks() {
		got, ok := impl.MapApply(mapOf(in(5, 4), in(0, 0)), 6, p)
		wantNoMap(t, name, got, ok)
	}
	for name, p := range fewWrongPacks() {
		if slowPackOk(p) {
			t.Fatalf("%s is right", name)
		}
		for _, m := range append(rightMaps(), impl.Map{}, mapOf(in(1, 1))) {
			for _, sector := range []int{1, 2, 9, 23, 24} {
				got, ok := impl.MapApply(m, sector, p)
				wantNoMap(t, name, got, ok)
			}
		}
	}
}

// Many packs, one over the other, and what is saved between them.
func TestMapsOfManyPacks(t *testing.T) {
	all := mapPacks()
	for seed := range uint64(60) {
		m := mapOf(make([]impl.Place, 1+seed%impl.MaxAddr)...)
		sectors, which := picked(80, impl.MaxRaw, seed), picked(80, len(all)-1, seed+5)
		for i := range sectors {
			if !applyHolds(t, m, sectors[i], all[which[i]]) {
				continue
			}
			m, _ = impl.MapApply(m, sectors[i], all[which[i]])
			mapComesBack(t, i, m)
		}
	}
}

// mapComesBack holds the bytes of a saved map against the model, and what they are read as against the map.
func mapComesBack(t *testing.T, epoch int, m impl.Map) {
	t.Helper()
	b, ok := impl.SuperBytes(epoch, m)
	if !ok || !bytes.Equal(b, slowSuperBytes(epoch, m)) {
		t.Fatalf("SuperBytes of %d %v: %v %v, want %v true", epoch, m, b, ok, slowSuperBytes(epoch, m))
	}
	back, got, ok := impl.SuperRead(b)
	wantSaved(t, "what comes back", back, got, ok, epoch, m)
}

func TestMapsComeBack(t *testing.T) {
	for _, m := range rightMaps() {
		for _, epoch := range []int{0, 1, 2, 127, 128, 255, 256, 257, 258, 0x1234, impl.MaxEpoch - 1, impl.MaxEpoch} {
			mapComesBack(t, epoch, m)
		}
	}
	for seed := range uint64(500) {
		mapComesBack(t, picked(1, impl.MaxEpoch, seed)[0], scattered(1+int(seed)%impl.MaxAddr, seed+100))
	}
}

func TestMapsOfEachEpochComeBack(t *testing.T) {
	for epoch := range impl.MaxEpoch + 1 {
		mapComesBack(t, epoch, mapOf(in(0, 0), in(5, 1)))
	}
}

func TestMapsOfEachPlaceComeBack(t *testing.T) {
	for sector := 2; sector < impl.MaxRaw; sector++ {
		for index := range impl.MaxAddr {
			mapComesBack(t, 7, mapOf(in(sector, index)))
			mapComesBack(t, 7, mapOf(in(0, 0), in(sector, index), in(0, 0)))
		}
	}
}

// What the document says is written out here by hand.
func TestSuperBytesByHand(t *testing.T) {
	for _, c := range []struct {
		epoch int
		m     impl.Map
		b     string
	}{
		{0, mapOf(in(0, 0)), "S\x00\x00\x01"},
		{258, mapOf(in(0, 0), in(0, 0), in(5, 1)), "S\x01\x02\x03\x00\x00\x00\x00\x05\x01"},
		{60000, mapOf(in(2, 0), in(23, 15)), "S\xea\x60\x02\x02\x00\x17\x0f"},
		{255, mapOf(make([]impl.Place, 16)...), "S\x00\xff\x10"},
		{256, together(16, 9), "S\x01\x00\x10\x09\x0f\x09\x0e\x09\x0d\x09\x0c\x09\x0b\x09\x0a\x09\x09\x09\x08\x09\x07\x09\x06\x09\x05\x09\x04\x09\x03\x09\x02\x09\x01\x09\x00"},
	} {
		if !bytes.Equal(slowSuperBytes(c.epoch, c.m), sectorBy([]byte(c.b))) {
			t.Fatalf("the model: %v", c.m)
		}
		mapComesBack(t, c.epoch, c.m)
	}
}

func TestSuperBytesRefusesEpochs(t *testing.T) {
	for _, epoch := range []int{math.MinInt, -65536, -60000, -256, -1, impl.MaxEpoch + 1, impl.MaxEpoch + 2, 65535, 65536, 65536 + 7, 1 << 40, math.MaxInt} {
		for _, m := range append(rightMaps(), impl.Map{}, mapOf(in(1, 0))) {
			b, ok := impl.SuperBytes(epoch, m)
			wantNoBytes(t, fmt.Sprint("epoch ", epoch), b, ok)
		}
	}
}

// readIsItsMap tells whether a sector is read as a saved map, as the model has it; what is read has just this sector.
func readIsItsMap(t *testing.T, name string, b []byte) bool {
	t.Helper()
	epoch, m, ok := impl.SuperRead(b)
	wantEpoch, want, right := slowSuperRead(b)
	if !right {
		wantNotSaved(t, fmt.Sprint(name, ": SuperRead of ", b), epoch, m, ok)
		return false
	}
	wantSaved(t, fmt.Sprint(name, ": SuperRead of ", b), epoch, m, ok, wantEpoch, want)
	again, ok := impl.SuperBytes(epoch, m)
	if !ok || !bytes.Equal(again, b) {
		t.Fatalf("%s: %v is read as %d %v, whose bytes are %v", name, b, epoch, m, again)
	}
	return true
}

func TestWhateverIsReadAsAMapIsJustIts(t *testing.T) {
	read := 0
	for i, m := range rightMaps() {
		whole := slowSuperBytes(300+i, m)
		for at := range whole {
			for _, v := range []byte{0, 1, 2, 15, 16, 17, 23, 24, whole[at] + 1, whole[at] - 1, whole[at] ^ 0x80, 'S', 255} {
				b := bytes.Clone(whole)
				b[at] = v
				if readIsItsMap(t, fmt.Sprint("byte ", at), b) && v != whole[at] {
					read++
				}
			}
		}
	}
	if read < 1000 {
		t.Fatalf("only %d spoilt sectors are read", read)
	}
}

// The bytes that tell of all others, and of the first places, have each value, alone and two at a time.
func TestHeadsOfMapsOfEachValue(t *testing.T) {
	for _, m := range []impl.Map{mapOf(in(0, 0)), mapOf(in(2, 0), in(0, 0), in(2, 1)), together(16, 23)} {
		whole := slowSuperBytes(0xEA60, m)
		eachHead(whole, []int{1, 3, 4, 5}, []byte{0, 1, 2, 15, 16, 17}, func(name string, b []byte) { readIsItsMap(t, name, b) })
	}
}

func TestSuperReadOfAnySector(t *testing.T) {
	read := 0
	for seed := range 2000 {
		b := sectorOf(seed)
		readIsItsMap(t, "any bytes", b)
		b[0] = 'S'
		readIsItsMap(t, "any bytes behind S", b)
		b[1], b[3] = b[1]%234, b[3]%18
		readIsItsMap(t, "any bytes behind a right head", b)
		for few := 4; few <= 36; few += 2 {
			c := sectorBy(b[:few])
			c[3] = byte(few-4) / 2
			for i := 4; i < few; i += 2 {
				c[i], c[i+1] = 2+c[i]%22, c[i+1]%16
			}
			if readIsItsMap(t, "few bytes", c) {
				read++
			}
		}
	}
	if read < 10000 {
		t.Fatalf("only %d sectors are read", read)
	}
}

// refusedSupers are no saved maps, nearly all for one reason alone.
func refusedSupers() map[string][]byte {
	whole := slowSuperBytes(258, mapOf(in(5, 1), in(0, 0), in(7, 2)))
	full := slowSuperBytes(impl.MaxEpoch, together(16, 9))
	all := map[string][]byte{
		"nothing":                          nil,
		"an empty list":                    {},
		"S alone":                          {'S'},
		"a head alone":                     whole[:4],
		"what it has, without the noughts": whole[:10],
		"a byte too short":                 whole[:255],
		"a byte too long":                  append(bytes.Clone(whole), 0),
		"a sector and another one":         slices.Concat(whole, whole),
		"noughts":                          make([]byte, impl.RawBytes),
		"another letter":                   spoiltAt(whole, 0, 's'),
		"the letter ahead":                 spoiltAt(whole, 0, 'R'),
		"the letter of a pack":             spoiltAt(whole, 0, 'P'),
		"a pack":                           slowPackBytes(crowded(3)),
		"an empty pack":                    slowPackBytes(packOf(1, 2)),
		"an epoch too great":               spoiltAt(whole, 1, 0xEA, 0x61),
		"the greatest epoch of two bytes":  spoiltAt(whole, 1, 255, 255),
		"no places":                        sectorBy([]byte("S\x00\x01\x00")),
		"no places, one behind":            spoiltAt(slowSuperBytes(1, mapOf(in(5, 1))), 3, 0),
		"a place less":                     spoiltAt(whole, 3, 2),
		"MaxAddr + 1 places":               spoiltAt(full, 3, 17),
		"MaxAddr + 1 nowhere":              sectorBy([]byte("S\x00\x01\x11")),
		"126 up to the end":                sectorBy([]byte("S\x00\x01\x7e")),
		"127 past the end":                 sectorBy([]byte("S\x00\x01\x7f")),
		"255 far past the end":             sectorBy([]byte("S\x00\x01\xff")),
		"256 bytes of S":                   bytes.Repeat([]byte("S"), impl.RawBytes),
		"Sector 0, Index 1":                spoiltAt(whole, 6, 0, 1),
		"Sector 1, Index 0":                spoiltAt(whole, 6, 1, 0),
		"Sector MaxRaw":                    spoiltAt(whole, 6, 24, 0),
		"Sector 255":                       spoiltAt(whole, 6, 255, 0),
		"Index MaxAddr":                    spoiltAt(whole, 6, 5, 16),
		"Index 255":                        spoiltAt(whole, 6, 5, 255),
		"two alike":                        spoiltAt(whole, 8, 5, 1),
		"two alike in a full one":          spoiltAt(full, 34, 9, 15),
	}
	for at := 10; at < impl.RawBytes; at++ {
		all[fmt.Sprint("something in the rest at ", at)] = spoiltAt(whole, at, 1)
	}
	for at := 36; at < impl.RawBytes; at++ {
		all[fmt.Sprint("something behind a full one at ", at)] = spoiltAt(full, at, 0x80)
	}
	return all
}

func TestSuperReadRefuses(t *testing.T) {
	for name, b := range refusedSupers() {
		if readIsItsMap(t, name, b) {
			t.Fatalf("%s: %v is read", name, b)
		}
	}
	full := slowSuperBytes(impl.MaxEpoch, together(16, 9))
	for size := range 600 {
		for _, b := range [][]byte{full, slowSuperBytes(0, mapOf(in(0, 0))), make([]byte, 256)} {
			long := append(bytes.Clone(b), make([]byte, 600)...)
			if readIsItsMap(t, fmt.Sprint(size, " bytes"), long[:size]) != (size == impl.RawBytes && b[0] == 'S') {
				t.Fatalf("%d bytes of %v", size, b)
			}
		}
	}
}

func newestHolds(t *testing.T, name string, a []byte, b []byte) {
	t.Helper()
	epoch, m, ok := impl.Newest(a, b)
	wantEpoch, want, right := slowNewest(a, b)
	if !right {
		wantNotSaved(t, name, epoch, m, ok)
		return
	}
	wantSaved(t, name, epoch, m, ok, wantEpoch, want)
}

func TestNewest(t *testing.T) {
	one, other := mapOf(in(5, 1), in(0, 0)), mapOf(in(0, 0), in(7, 2), in(23, 15))
	epochs := []int{0, 1, 2, 254, 255, 256, 257, 511, 512, 0x1234, 0x3412, 59999, impl.MaxEpoch}
	for _, x := range epochs {
		for _, y := range epochs {
			a, b := slowSuperBytes(x, one), slowSuperBytes(y, other)
			epoch, m, ok := impl.Newest(a, b)
			if x >= y {
				wantSaved(t, "the first one counts", epoch, m, ok, x, one)
			} else {
				wantSaved(t, "the second one counts", epoch, m, ok, y, other)
			}
			newestHolds(t, "two that are right", a, b)
			newestHolds(t, "two that are right, turned", b, a)
			newestHolds(t, "one twice", a, a)
		}
	}
}

// Of two with one epoch the first counts, whichever map that has.
func TestNewestOfAlikeEpochs(t *testing.T) {
	all := rightMaps()
	for i, m := range all {
		n := all[(i+1)%len(all)]
		for _, epoch := range []int{0, 1, 258, impl.MaxEpoch} {
			a, b := slowSuperBytes(epoch, m), slowSuperBytes(epoch, n)
			back, got, ok := impl.Newest(a, b)
			wantSaved(t, "alike epochs", back, got, ok, epoch, m)
			back, got, ok = impl.Newest(b, a)
			wantSaved(t, "alike epochs, turned", back, got, ok, epoch, n)
		}
	}
}

// One that is none does not count, though its epoch would be the greater one.
func TestNewestOfOneThatIsNone(t *testing.T) {
	m := mapOf(in(0, 0), in(7, 2))
	for name, wrong := range refusedSupers() {
		for _, epoch := range []int{0, 1, impl.MaxEpoch} {
			right := slowSuperBytes(epoch, m)
			back, got, ok := impl.Newest(wrong, right)
			wantSaved(t, name+" ahead", back, got, ok, epoch, m)
			back, got, ok = impl.Newest(right, wrong)
			wantSaved(t, name+" behind", back, got, ok, epoch, m)
		}
		for _, none := range [][]byte{nil, wrong, make([]byte, impl.RawBytes), slowPackBytes(crowded(3))} {
			back, got, ok := impl.Newest(wrong, none)
			wantNotSaved(t, name+" and another", back, got, ok)
			back, got, ok = impl.Newest(none, wrong)
			wantNotSaved(t, "another and "+name, back, got, ok)
		}
	}
}

func TestNewestOfAnySectors(t *testing.T) {
	for seed := range uint64(1000) {
		epochs := picked(2, 3, seed)
		a := slowSuperBytes(epochs[0], scattered(1+int(seed)%16, seed))
		b := slowSuperBytes(epochs[1], scattered(1+int(seed)%7, seed+1))
		for _, at := range picked(3, impl.RawBytes-1, seed) {
			newestHolds(t, "any two", a, b)
			newestHolds(t, "any two, turned", b, a)
			a[at%40]++
			newestHolds(t, "one is spoilt", a, b)
			newestHolds(t, "one is spoilt, turned", b, a)
			b[at]++
		}
	}
}

// roomyMap has others behind the last place: one that might be right, one that is nowhere, and a wrong one.
func roomyMap(m impl.Map) []impl.Place {
	return slices.Concat(m.L, []impl.Place{in(5, 1), in(0, 0), in(1, 99)})
}

func spoilPlaces(l []impl.Place) {
	l = l[:cap(l)]
	for i := range l {
		l[i] = in(1000+i, l[i].Index-1000)
	}
}

// keepsMapApart calls do with a map that has spare room, and tells where this or the answer are changed through one another.
func keepsMapApart(t *testing.T, name string, m impl.Map, do func(m impl.Map) impl.Map) {
	t.Helper()
	room := roomyMap(m)
	before := slices.Clone(room)
	answer := do(mapOf(room[:len(m.L)]...))
	if !slices.Equal(room, before) {
		t.Fatalf("%s of %v writes into its argument or behind it", name, m)
	}
	want := mapOf(slices.Clone(answer.L)...)
	if !sameMap(want, do(mapOf(slices.Clone(m.L)...))) {
		t.Fatalf("%s of %v tells something else with spare room: %v", name, m, answer)
	}
	spoilPlaces(room)
	if !sameMap(answer, want) {
		t.Fatalf("%s of %v: the answer changes with the argument", name, m)
	}
	spoilt := slices.Clone(room)
	spoilPlaces(answer.L)
	if !slices.Equal(room, spoilt) {
		t.Fatalf("%s of %v: the argument changes with the answer", name, m)
	}
}

// asMap has numbers as Sectors.
func asMap(l ...int) impl.Map {
	var m impl.Map
	for _, n := range l {
		m.L = append(m.L, in(n, 0))
	}
	return m
}

func TestMapArgumentsStay(t *testing.T) {
	all := rightMaps()
	for name, m := range wrongMaps() {
		if len(m.L) != 1 || len(name)%5 == 0 {
			all = append(all, m)
		}
	}
	for _, m := range all {
		keepsMapApart(t, "MapOk", m, func(m impl.Map) impl.Map {
			if impl.MapOk(m) {
				return asMap(1)
			}
			return asMap(0)
		})
		for _, addr := range []int{-1, 0, len(m.L) - 1, len(m.L), len(m.L) + 1} {
			keepsMapApart(t, "MapGet", m, func(m impl.Map) impl.Map { w, _ := impl.MapGet(m, addr); return mapOf(w) })
		}
		for _, sector := range []int{0, 1, 2, 5, 9, 23, 24} {
			keepsMapApart(t, "MapLive", m, func(m impl.Map) impl.Map { return asMap(impl.MapLive(m, sector)...) })
			for _, p := range mapPacks()[:9] {
				keepsMapApart(t, fmt.Sprint("MapApply of ", p), m, func(m impl.Map) impl.Map { n, _ := impl.MapApply(m, sector, p); return n })
			}
		}
		for _, epoch := range []int{-1, 0, 258, impl.MaxEpoch, impl.MaxEpoch + 1} {
			keepsMapApart(t, "SuperBytes", m, func(m impl.Map) impl.Map {
				b, _ := impl.SuperBytes(epoch, m)
				return asMap(listOfBytes(b)...)
			})
		}
	}
}

func listOfBytes(b []byte) []int {
	l := []int{}
	for _, v := range b {
		l = append(l, int(v))
	}
	return l
}

func TestPackOfAMapStays(t *testing.T) {
	for _, p := range append(mapPacks(), slices.Collect(maps.Values(fewWrongPacks()))...) {
		for _, sector := range []int{1, 2, 5, 24} {
			for _, m := range []impl.Map{mapOf(make([]impl.Place, 16)...), mapOf(in(5, 1), in(0, 0)), {}} {
				keepsPackApart(t, "MapApply", p, func(p impl.Pack) impl.Pack {
					n, _ := impl.MapApply(m, sector, p)
					b, _ := impl.SuperBytes(1, n)
					return asPack(b)
				})
			}
		}
	}
}

func TestSectorOfAMapStays(t *testing.T) {
	all := slices.Collect(maps.Values(refusedSupers()))
	for i, m := range rightMaps() {
		all = append(all, slowSuperBytes(1000*i, m))
	}
	other := slowSuperBytes(5000, together(3, 4))
	for _, b := range all {
		epoch, m, ok := slowSuperRead(b)
		keepsBytesApart(t, "SuperRead", b, func(b []byte) []byte {
			back, got, is := impl.SuperRead(b)
			if back != epoch || !sameMap(got, m) || is != ok {
				t.Fatalf("SuperRead of %v with spare room: %d %v %v", b, back, got, is)
			}
			spoilPlaces(got.L)
			return nil
		})
		for _, pair := range []func(b []byte) ([]byte, []byte){
			func(b []byte) ([]byte, []byte) { return b, other },
			func(b []byte) ([]byte, []byte) { return other, b },
			func(b []byte) ([]byte, []byte) { return b, b },
		} {
			keepsBytesApart(t, "Newest", b, func(b []byte) []byte {
				x, y := pair(b)
				newestHolds(t, "with spare room", x, y)
				_, got, _ := impl.Newest(x, y)
				spoilPlaces(got.L)
				return nil
			})
		}
	}
	if !bytes.Equal(other, slowSuperBytes(5000, together(3, 4))) {
		t.Fatal("Newest writes into the other argument")
	}
}

// What lies behind a list's length is none of it.
func TestMapsReadNoSpare(t *testing.T) {
	room := []impl.Place{in(5, 1), in(0, 0), in(5, 1), in(6, 0), in(1, 0)}
	for n := range 6 {
		if m := mapOf(room[:n]...); impl.MapOk(m) != (n == 1 || n == 2) {
			t.Fatalf("MapOk of %v is %v", m, impl.MapOk(m))
		}
	}
	m := mapOf(room[:2]...)
	wantWhere(t, "in the spare room", m, 3, in(0, 0), false)
	wantLive(t, "in the spare room", m, 6, nil)
	got, ok := impl.MapApply(m, 6, sized(0, 0, 0, 2))
	wantMap(t, "a sector in the spare room", got, ok, mapOf(in(0, 0), in(0, 0)))
	mapComesBack(t, 3, m)
	both := slices.Concat(slowSuperBytes(1, m), slowSuperBytes(2, got))
	epoch, n, ok := impl.SuperRead(both[:256])
	wantSaved(t, "another one behind", epoch, n, ok, 1, m)
	epoch, n, ok = impl.Newest(both[:256], both[256:])
	wantSaved(t, "one behind the other", epoch, n, ok, 2, got)
	epoch, n, ok = impl.Newest(both[:255], both[:0])
	wantNotSaved(t, "a nought in the spare room", epoch, n, ok)
}

// Nothing is kept: answers of one call are not those of another one, behind a refusal, too.
func TestMapsKeepNothing(t *testing.T) {
	m, _ := impl.MapNew(4)
	spoilPlaces(m.L)
	m, ok := impl.MapNew(4)
	wantMap(t, "MapNew again", m, ok, mapOf(make([]impl.Place, 4)...))
	one, _ := impl.MapApply(m, 5, sized(2, 2))
	other, ok := impl.MapApply(m, 5, sized(0, 2))
	spoilPlaces(one.L)
	wantMap(t, "one of two", other, ok, mapOf(in(0, 0), in(5, 1), in(0, 0), in(0, 0)))
	live := impl.MapLive(together(9, 3), 3)
	for i := range live[:cap(live)] {
		live[:cap(live)][i] = -1
	}
	wantLive(t, "MapLive again", together(9, 3), 3, upTo(8))
	b, _ := impl.SuperBytes(7, other)
	spoil(b)
	mapComesBack(t, 7, other)
	saved := slowSuperBytes(7, other)
	_, first, _ := impl.SuperRead(saved)
	spoilPlaces(first.L)
	for name, wrong := range refusedSupers() {
		epoch, none, ok := impl.SuperRead(wrong)
		wantNotSaved(t, name, epoch, none, ok)
		epoch, got, ok := impl.SuperRead(saved)
		wantSaved(t, "behind "+name, epoch, got, ok, 7, other)
	}
}
