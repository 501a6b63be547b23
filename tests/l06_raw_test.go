package tests

import (
	"bytes"
	"fmt"
	"maps"
	"math"
	"slices"
	"testing"

	"loop.example/g00528/impl"
)

// sectorOf looks like no pattern; no two seeds have a sector alike.
func sectorOf(seed int) []byte {
	return bytesOf(picked(impl.RawBytes, 255, uint64(seed)), 0)
}

// rawOf has n sectors, and one that waits for each of ats, no two with the same bytes.
func rawOf(n int, ats ...int) impl.Raw {
	var r impl.Raw
	for i := range n {
		r.Sectors = append(r.Sectors, sectorOf(i))
	}
	for i, at := range ats {
		r.Pending = append(r.Pending, impl.Pend{At: at, Data: sectorOf(1000 + i)})
	}
	return r
}

func clonedRaw(r impl.Raw) impl.Raw {
	c := impl.Raw{Sectors: slices.Clone(r.Sectors), Pending: slices.Clone(r.Pending)}
	for i := range c.Sectors {
		c.Sectors[i] = bytes.Clone(c.Sectors[i])
	}
	for i := range c.Pending {
		c.Pending[i].Data = bytes.Clone(c.Pending[i].Data)
	}
	return c
}

func sameRaw(a impl.Raw, b impl.Raw) bool {
	return slices.EqualFunc(a.Sectors, b.Sectors, bytes.Equal) && slices.EqualFunc(a.Pending, b.Pending, func(x impl.Pend, y impl.Pend) bool {
		return x.At == y.At && bytes.Equal(x.Data, y.Data)
	})
}

// rawText tells of a raw device by its lengths and the first bytes alone.
func rawText(r impl.Raw) string {
	text := fmt.Sprint(len(r.Sectors), " sectors:")
	for _, s := range r.Sectors {
		text += fmt.Sprintf(" %d(%x)", len(s), s[:min(len(s), 3)])
	}
	text += fmt.Sprint("; ", len(r.Pending), " wait:")
	for _, p := range r.Pending {
		text += fmt.Sprintf(" %d<-%d(%x)", p.At, len(p.Data), p.Data[:min(len(p.Data), 3)])
	}
	return text
}

// slowKept is, sector by sector, the last one that waits for it and has true in keep, else the sector.
func slowKept(r impl.Raw, keep []bool) [][]byte {
	all := [][]byte{}
	for at, sector := range r.Sectors {
		left := sector
		for i, p := range r.Pending {
			if p.At == at && i < len(keep) && keep[i] {
				left = p.Data
			}
		}
		all = append(all, left)
	}
	return all
}

func wantRaw(t *testing.T, name string, got impl.Raw, ok bool, want impl.Raw) {
	t.Helper()
	if !ok || !sameRaw(got, want) {
		t.Fatalf("%s: %s, %v, want %s, true", name, rawText(got), ok, rawText(want))
	}
	if !impl.RawOk(got) {
		t.Fatalf("%s: %s is not RawOk", name, rawText(got))
	}
}

func wantNoRaw(t *testing.T, name string, got impl.Raw, ok bool) {
	t.Helper()
	if ok || len(got.Sectors) != 0 || len(got.Pending) != 0 {
		t.Fatalf("%s: %s, %v, want the zero value and false", name, rawText(got), ok)
	}
}

func wantSector(t *testing.T, name string, r impl.Raw, at int, want []byte) {
	t.Helper()
	b, ok := impl.RawRead(r, at)
	if !ok || !bytes.Equal(b, want) {
		t.Fatalf("%s: RawRead of %s at %d: %x %v, want %x true", name, rawText(r), at, b, ok, want)
	}
}

func wantNoSector(t *testing.T, name string, r impl.Raw, at int) {
	t.Helper()
	b, ok := impl.RawRead(r, at)
	wantNoBytes(t, fmt.Sprint(name, ": RawRead at ", at), b, ok)
}

// readsAs holds each sector that is read, and those that are not there, against want.
func readsAs(t *testing.T, name string, r impl.Raw, want [][]byte) {
	t.Helper()
	for at, sector := range want {
		wantSector(t, name, r, at, sector)
	}
	for _, at := range []int{math.MinInt, -impl.MaxRaw, -1, len(want), len(want) + 1, impl.MaxRaw, impl.MaxPending, math.MaxInt} {
		if at < 0 || at >= len(want) {
			wantNoSector(t, name, r, at)
		}
	}
}

// wrongRaws are not RawOk, nearly all for one reason alone.
func wrongRaws() map[string]impl.Raw {
	all := map[string]impl.Raw{
		"the zero value":                    {},
		"empty lists":                       {Sectors: [][]byte{}, Pending: []impl.Pend{}},
		"no sectors, one that waits":        rawOf(0, 0),
		"MaxRaw + 1 sectors":                rawOf(impl.MaxRaw + 1),
		"MaxRaw + 1 sectors, one waits":     rawOf(impl.MaxRaw+1, 0),
		"many sectors":                      rawOf(10 * impl.MaxRaw),
		"MaxPending + 1 wait":               rawOf(3, alike(impl.MaxPending+1, 1)...),
		"MaxPending + 1 wait for one alone": rawOf(1, alike(impl.MaxPending+1, 0)...),
		"many wait":                         rawOf(impl.MaxRaw, alike(10*impl.MaxPending, 1)...),
	}
	for _, size := range []int{0, 1, impl.RawBytes - 1, impl.RawBytes + 1, 2 * impl.RawBytes} {
		for i := range 3 {
			r := rawOf(3, 0, 1, 2)
			r.Sectors[i] = make([]byte, size)
			all[fmt.Sprintf("sector %d has %d bytes", i, size)] = r
			r = rawOf(3, 0, 1, 2)
			r.Pending[i].Data = make([]byte, size)
			all[fmt.Sprintf("number %d of what waits has %d bytes", i, size)] = r
		}
	}
	for _, at := range []int{math.MinInt, -256, -1, 3, 4, impl.MaxRaw - 1, impl.MaxRaw, 256, math.MaxInt} {
		for i := range 3 {
			r := rawOf(3, 0, 1, 2)
			r.Pending[i].At = at
			all[fmt.Sprintf("number %d waits for the sector %d", i, at)] = r
		}
	}
	return all
}

// rightRaws have the fewest and the most sectors, and nothing, something, and the most that waits.
func rightRaws() []impl.Raw {
	all := []impl.Raw{}
	for _, n := range []int{1, 2, 3, impl.MaxRaw - 1, impl.MaxRaw} {
		all = append(all, rawOf(n), rawOf(n, 0), rawOf(n, n-1), rawOf(n, 0, n-1, 0, n-1, n/2))
		for _, many := range []int{impl.MaxPending - 1, impl.MaxPending} {
			all = append(all, rawOf(n, picked(many, n-1, uint64(n))...), rawOf(n, alike(many, n-1)...))
		}
	}
	return all
}

// keepsOf are flags of each length up to a few more than n, all, none, and others that look like no pattern.
func keepsOf(n int) [][]bool {
	all := [][]bool{nil, {}}
	for _, size := range []int{1, 2, n / 2, n - 1, n, n + 1, n + 7, 300} {
		if size > 0 {
			all = append(all, ones(size), make([]bool, size), mixed(size, uint64(n)), mixed(size, uint64(n+size)))
		}
	}
	return all
}

func TestRawOk(t *testing.T) {
	for _, r := range rightRaws() {
		if !impl.RawOk(r) {
			t.Errorf("refused: %s", rawText(r))
		}
	}
	for name, r := range wrongRaws() {
		if impl.RawOk(r) {
			t.Errorf("%s: accepted", name)
		}
	}
	alone := rawOf(1)
	if alone.Pending = nil; !impl.RawOk(alone) {
		t.Error("nil is not nothing that waits")
	}
	if alone.Pending = []impl.Pend{}; !impl.RawOk(alone) {
		t.Error("an empty list is not nothing that waits")
	}
}

func TestRawNew(t *testing.T) {
	for n := 1; n <= impl.MaxRaw; n++ {
		want := impl.Raw{}
		for range n {
			want.Sectors = append(want.Sectors, make([]byte, impl.RawBytes))
		}
		r, ok := impl.RawNew(n)
		wantRaw(t, fmt.Sprint("RawNew of ", n), r, ok, want)
		readsAs(t, fmt.Sprint("RawNew of ", n), r, want.Sectors)
		listsAreApart(t, fmt.Sprint("RawNew of ", n), r)
	}
	for _, n := range []int{math.MinInt, -impl.MaxRaw, -1, 0, impl.MaxRaw + 1, impl.MaxRaw + 2, 256, 1 << 32, 1<<32 + 1, math.MaxInt} {
		r, ok := impl.RawNew(n)
		wantNoRaw(t, fmt.Sprint("RawNew of ", n), r, ok)
	}
}

func TestRawReadTakesTheLastThatWaits(t *testing.T) {
	for _, r := range rightRaws() {
		readsAs(t, "as it is", r, slowKept(r, ones(impl.MaxPending)))
	}
	for n := range 5 {
		eachList(n, upTo(2), func(ats []int) {
			r := rawOf(3, ats...)
			readsAs(t, fmt.Sprint(ats), r, slowKept(r, ones(n)))
		})
	}
}

func TestRawWriteIsRead(t *testing.T) {
	for _, r := range rightRaws() {
		before := slowKept(r, ones(impl.MaxPending))
		for at := range r.Sectors {
			name := fmt.Sprint("RawWrite at ", at)
			data := sectorOf(5000 + at)
			got, ok := impl.RawWrite(r, at, data)
			if len(r.Pending) == impl.MaxPending {
				wantNoRaw(t, name, got, ok)
				continue
			}
			want := clonedRaw(r)
			want.Pending = append(want.Pending, impl.Pend{At: at, Data: data})
			wantRaw(t, name, got, ok, want)
			after := slices.Clone(before)
			after[at] = data
			readsAs(t, name, got, after)
		}
	}
}

// Of several that are written to one sector the last one is read, be it what was there before or not.
func TestRawWriteOfAlikeOnes(t *testing.T) {
	r := rawOf(2)
	first, second, old := sectorOf(70), sectorOf(71), sectorOf(0)
	for i, data := range [][]byte{first, second, first, first, old, second, old} {
		var ok bool
		r, ok = impl.RawWrite(r, 0, data)
		if !ok || len(r.Pending) != i+1 {
			t.Fatalf("write %d: %s, %v", i, rawText(r), ok)
		}
		readsAs(t, fmt.Sprint("write ", i), r, [][]byte{data, sectorOf(1)})
	}
	if !slices.EqualFunc(r.Sectors, rawOf(2).Sectors, bytes.Equal) {
		t.Fatalf("the sectors do not wait: %s", rawText(r))
	}
}

func TestRawWriteUpToMaxPending(t *testing.T) {
	for _, n := range []int{1, 5, impl.MaxRaw} {
		r := rawOf(n)
		ats := picked(impl.MaxPending, n-1, 3)
		for i, at := range ats {
			var ok bool
			r, ok = impl.RawWrite(r, at, sectorOf(1000+i))
			wantRaw(t, fmt.Sprint("write ", i), r, ok, rawOf(n, ats[:i+1]...))
		}
		for at := range n {
			full, ok := impl.RawWrite(r, at, sectorOf(1))
			wantNoRaw(t, "one more than MaxPending", full, ok)
		}
		readsAs(t, "MaxPending wait", r, slowKept(r, ones(impl.MaxPending)))
		r, _ = impl.RawBarrier(r)
		r, ok := impl.RawWrite(r, n-1, sectorOf(77))
		if !ok || len(r.Pending) != 1 {
			t.Fatalf("no room behind a barrier: %s, %v", rawText(r), ok)
		}
		wantSector(t, "behind a barrier", r, n-1, sectorOf(77))
	}
}

func TestRawWriteRefuses(t *testing.T) {
	data := sectorOf(9)
	for _, n := range []int{1, 3, impl.MaxRaw} {
		r := rawOf(n, 0, n-1)
		for _, at := range []int{math.MinInt, -impl.RawBytes, -1, n, n + 1, impl.MaxRaw, impl.MaxRaw + 1, 1 << 32, math.MaxInt} {
			got, ok := impl.RawWrite(r, at, data)
			wantNoRaw(t, fmt.Sprintf("%d sectors, at %d", n, at), got, ok)
		}
		for _, at := range []int{0, n - 1} {
			for _, size := range []int{0, 1, impl.BlockBytes, impl.RawBytes - 1, impl.RawBytes + 1, 2 * impl.RawBytes} {
				got, ok := impl.RawWrite(r, at, make([]byte, size))
				wantNoRaw(t, fmt.Sprintf("%d bytes at %d", size, at), got, ok)
			}
			got, ok := impl.RawWrite(r, at, nil)
			wantNoRaw(t, "no bytes", got, ok)
			got, ok = impl.RawWrite(r, at, make([]byte, impl.RawBytes))
			if !ok || len(got.Pending) != 3 {
				t.Fatalf("RawBytes bytes at %d: %s, %v", at, rawText(got), ok)
			}
		}
	}
}

func TestWrongRawsAreRefused(t *testing.T) {
	for name, r := range wrongRaws() {
		for _, at := range []int{-1, 0, 1, 2, 3, len(r.Sectors) - 1, len(r.Sectors)} {
			wantNoSector(t, name, r, at)
			got, ok := impl.RawWrite(r, at, sectorOf(1))
			wantNoRaw(t, name+", RawWrite", got, ok)
		}
		got, ok := impl.RawBarrier(r)
		wantNoRaw(t, name+", RawBarrier", got, ok)
		for _, keep := range keepsOf(len(r.Pending)) {
			got, ok = impl.RawCrash(r, keep)
			wantNoRaw(t, name+", RawCrash", got, ok)
		}
	}
}

// barrierHolds asks that each sector reads as before, and that it stands where nothing waits.
func barrierHolds(t *testing.T, r impl.Raw) {
	t.Helper()
	want := slowKept(r, ones(impl.MaxPending))
	got, ok := impl.RawBarrier(r)
	wantRaw(t, "RawBarrier of "+rawText(r), got, ok, impl.Raw{Sectors: want})
	for at := range r.Sectors {
		before, _ := impl.RawRead(r, at)
		wantSector(t, "behind a barrier", got, at, before)
	}
	readsAs(t, "behind a barrier", got, want)
	again, ok := impl.RawBarrier(got)
	wantRaw(t, "a barrier behind another one", again, ok, got)
	for _, keep := range [][]bool{nil, ones(len(r.Pending)), make([]bool, len(r.Pending))} {
		crashed, ok := impl.RawCrash(got, keep)
		wantRaw(t, "a crash behind a barrier", crashed, ok, got)
	}
}

func TestRawBarrierLosesNothing(t *testing.T) {
	for _, r := range rightRaws() {
		barrierHolds(t, r)
	}
	for n := range 5 {
		eachList(n, upTo(2), func(ats []int) { barrierHolds(t, rawOf(3, ats...)) })
	}
}

// crashHolds asks by the promise's words: each sector is what it was, or something that waited for it and was kept, and that by the last one that was kept.
func crashHolds(t *testing.T, r impl.Raw, keep []bool) {
	t.Helper()
	name := fmt.Sprintf("RawCrash of %s, keeping %v", rawText(r), keep)
	got, ok := impl.RawCrash(r, keep)
	wantRaw(t, name, got, ok, impl.Raw{Sectors: slowKept(r, keep)})
	for at, sector := range got.Sectors {
		found := bytes.Equal(sector, r.Sectors[at])
		for i, p := range r.Pending {
			found = found || p.At == at && i < len(keep) && keep[i] && bytes.Equal(sector, p.Data)
		}
		if !found {
			t.Fatalf("%s: the sector %d is neither what it was nor kept", name, at)
		}
	}
	readsAs(t, name, got, got.Sectors)
}

func TestRawCrashKeepsWhatItIsTold(t *testing.T) {
	for _, r := range rightRaws() {
		for _, keep := range keepsOf(len(r.Pending)) {
			crashHolds(t, r, keep)
		}
		for i := range r.Pending {
			keep := make([]bool, len(r.Pending))
			keep[i] = true
			crashHolds(t, r, keep)
			crashHolds(t, r, keep[:i+1])
			crashHolds(t, r, keep[:i])
		}
	}
}

// All keeps, shorter and longer ones among them, for all that may wait for few sectors.
func TestRawCrashOfAllKeeps(t *testing.T) {
	for n := range 4 {
		eachList(n, upTo(1), func(ats []int) {
			r := rawOf(2, ats...)
			for size := range n + 3 {
				for v := range 1 << size {
					crashHolds(t, r, listOf(v, size))
				}
			}
		})
	}
}

func TestWhoKeepsAllHasWhatABarrierLeaves(t *testing.T) {
	for _, r := range rightRaws() {
		left, ok := impl.RawBarrier(r)
		wantRaw(t, "a barrier", left, ok, impl.Raw{Sectors: slowKept(r, ones(impl.MaxPending))})
		for _, more := range []int{0, 1, 100} {
			got, ok := impl.RawCrash(r, ones(len(r.Pending)+more))
			wantRaw(t, fmt.Sprint("all are kept, and ", more), got, ok, left)
			got, ok = impl.RawCrash(r, make([]bool, len(r.Pending)+more))
			wantRaw(t, fmt.Sprint("none is kept of these and ", more), got, ok, impl.Raw{Sectors: r.Sectors})
		}
		got, ok := impl.RawCrash(r, nil)
		wantRaw(t, "nothing is told", got, ok, impl.Raw{Sectors: r.Sectors})
	}
}

// Of those that wait for one sector, what each keep leaves, written out by hand.
func TestRawCrashOfAlikeOnes(t *testing.T) {
	r := rawOf(3, 1, 1, 2, 1)
	old, first, between, last, other := r.Sectors[1], r.Pending[0].Data, r.Pending[1].Data, r.Pending[3].Data, r.Pending[2].Data
	for _, c := range []struct {
		name   string
		keep   []bool
		second []byte
		third  []byte
	}{
		{"none", []bool{false, false, false, false}, old, r.Sectors[2]},
		{"no flags", nil, old, r.Sectors[2]},
		{"the first", []bool{true, false, false, false}, first, r.Sectors[2]},
		{"the first, shorter", []bool{true}, first, r.Sectors[2]},
		{"the one between", []bool{false, true, false, false}, between, r.Sectors[2]},
		{"the one between, shorter", []bool{false, true}, between, r.Sectors[2]},
		{"the last", []bool{false, false, false, true}, last, r.Sectors[2]},
		{"the last, longer", []bool{false, false, false, true, true, true}, last, r.Sectors[2]},
		{"the first and the one between", []bool{true, true, false, false}, between, r.Sectors[2]},
		{"the first and the last", []bool{true, false, false, true}, last, r.Sectors[2]},
		{"the other alone", []bool{false, false, true}, old, other},
		{"all but the last", []bool{true, true, true}, between, other},
		{"all", []bool{true, true, true, true}, last, other},
		{"only those that are not there", []bool{false, false, false, false, true, true}, old, r.Sectors[2]},
	} {
		got, ok := impl.RawCrash(r, c.keep)
		wantRaw(t, c.name, got, ok, impl.Raw{Sectors: [][]byte{r.Sectors[0], c.second, c.third}})
	}
}

// slowStep is what a command of the script below leaves, done on a plain picture.
func slowStep(r impl.Raw, kind int, at int, data []byte, keep []bool) impl.Raw {
	switch kind {
	case 0:
		return impl.Raw{Sectors: slowKept(r, ones(impl.MaxPending))}
	case 1:
		return impl.Raw{Sectors: slowKept(r, keep)}
	}
	if len(r.Pending) == impl.MaxPending {
		return r
	}
	c := clonedRaw(r)
	c.Pending = append(c.Pending, impl.Pend{At: at, Data: data})
	return c
}

// Many writes with barriers and crashes between them; how rare these are tells how much waits.
func TestRawInManySteps(t *testing.T) {
	for _, n := range []int{1, 4, impl.MaxRaw} {
		for _, rare := range []int{3, 20, 200} {
			r, _ := impl.RawNew(n)
			want := clonedRaw(r)
			kinds, ats := picked(400, rare, uint64(n+rare)), picked(400, n-1, uint64(rare))
			for i, kind := range kinds {
				keep := mixed(max(0, len(r.Pending)-1+i%3), uint64(i))
				data := sectorOf(10000 + i)
				want = slowStep(want, kind, ats[i], data, keep)
				next, ok := r, true
				switch {
				case kind == 0:
					next, ok = impl.RawBarrier(r)
				case kind == 1:
					next, ok = impl.RawCrash(r, keep)
				case len(r.Pending) < impl.MaxPending:
					next, ok = impl.RawWrite(r, ats[i], data)
				}
				wantRaw(t, fmt.Sprint("step ", i), next, ok, want)
				wantSector(t, fmt.Sprint("step ", i), next, ats[i], slowKept(want, ones(impl.MaxPending))[ats[i]])
				r = next
			}
		}
	}
}

// rawLists are all lists of bytes, those of sectors first.
func rawLists(r impl.Raw) [][]byte {
	all := slices.Clone(r.Sectors)
	for _, p := range r.Pending {
		all = append(all, p.Data)
	}
	return all
}

// listsAreApart spoils one list after the other, with the room behind it, and looks at all others.
func listsAreApart(t *testing.T, name string, r impl.Raw) {
	t.Helper()
	lists := rawLists(r)
	before := rawLists(clonedRaw(r))
	for i := range lists {
		spoil(lists[i])
		for j := range lists {
			if j != i && !bytes.Equal(lists[j], before[j]) {
				t.Fatalf("%s of %s: the list %d changes with the list %d", name, rawText(r), j, i)
			}
		}
		spoil(lists[i])
	}
}

// roomyRaw has spare room behind each list, and others behind the last sector and the last one that waits.
func roomyRaw(r impl.Raw) impl.Raw {
	room := clonedRaw(r)
	room.Sectors = append(room.Sectors, sectorOf(501), sectorOf(502))
	room.Pending = append(room.Pending, impl.Pend{At: 0, Data: sectorOf(503)}, impl.Pend{At: 0, Data: sectorOf(504)})
	for i := range room.Sectors {
		room.Sectors[i], _ = fenced(room.Sectors[i])
	}
	for i := range room.Pending {
		room.Pending[i].Data, _ = fenced(room.Pending[i].Data)
	}
	return room
}

// wholeRaw shows what lies behind each list, too.
func wholeRaw(r impl.Raw) impl.Raw {
	c := impl.Raw{Sectors: slices.Clone(r.Sectors[:cap(r.Sectors)]), Pending: slices.Clone(r.Pending[:cap(r.Pending)])}
	for i, s := range c.Sectors {
		c.Sectors[i] = s[:cap(s)]
	}
	for i, p := range c.Pending {
		c.Pending[i].Data = p.Data[:cap(p.Data)]
	}
	return clonedRaw(c)
}

func spoilRaw(r impl.Raw) {
	sectors, pending := r.Sectors[:cap(r.Sectors)], r.Pending[:cap(r.Pending)]
	for i := range sectors {
		spoil(sectors[i])
		sectors[i] = []byte{byte(i)}
	}
	for i := range pending {
		spoil(pending[i].Data)
		pending[i] = impl.Pend{At: 1000 + i, Data: []byte{byte(i)}}
	}
}

// keepsRawApart calls do with a raw device that has spare room, and tells where this or the answer are changed through one another.
func keepsRawApart(t *testing.T, name string, r impl.Raw, do func(r impl.Raw) impl.Raw) {
	t.Helper()
	room := roomyRaw(r)
	before := wholeRaw(room)
	answer := do(impl.Raw{Sectors: room.Sectors[:len(r.Sectors)], Pending: room.Pending[:len(r.Pending)]})
	if !sameRaw(wholeRaw(room), before) {
		t.Fatalf("%s of %s writes into its argument or behind it", name, rawText(r))
	}
	want := clonedRaw(answer)
	listsAreApart(t, name, answer)
	spoilRaw(room)
	if !sameRaw(answer, want) {
		t.Fatalf("%s of %s: the answer changes with the argument", name, rawText(r))
	}
	room = roomyRaw(r)
	answer = do(impl.Raw{Sectors: room.Sectors[:len(r.Sectors)], Pending: room.Pending[:len(r.Pending)]})
	spoilRaw(answer)
	if !sameRaw(wholeRaw(room), before) {
		t.Fatalf("%s of %s: the argument changes with the answer", name, rawText(r))
	}
}

// readAsRaw has what is read as a sector.
func readAsRaw(at int) func(r impl.Raw) impl.Raw {
	return func(r impl.Raw) impl.Raw {
		b, _ := impl.RawRead(r, at)
		return impl.Raw{Sectors: [][]byte{b}}
	}
}

func TestRawArgumentsStay(t *testing.T) {
	all := append(rightRaws(), slices.Collect(maps.Values(wrongRaws()))...)
	for _, r := range all {
		data := sectorOf(600)
		keepsRawApart(t, "RawOk", r, func(x impl.Raw) impl.Raw { impl.RawOk(x); return impl.Raw{} })
		keepsRawApart(t, "RawBarrier", r, func(x impl.Raw) impl.Raw { y, _ := impl.RawBarrier(x); return y })
		for _, at := range []int{-1, 0, 1, len(r.Sectors) - 1, len(r.Sectors)} {
			keepsRawApart(t, "RawRead", r, readAsRaw(at))
			keepsRawApart(t, "RawWrite", r, func(x impl.Raw) impl.Raw { y, _ := impl.RawWrite(x, at, data); return y })
		}
		n := len(r.Pending)
		for _, keep := range [][]bool{nil, ones(n), make([]bool, n), mixed(n, 5), ones(n / 2), ones(n + 2)} {
			keepsRawApart(t, "RawCrash", r, func(x impl.Raw) impl.Raw { y, _ := impl.RawCrash(x, keep); return y })
		}
	}
}

func TestRawDataStays(t *testing.T) {
	for _, size := range []int{0, impl.RawBytes - 1, impl.RawBytes, impl.RawBytes + 1} {
		data := bytesOf(picked(size, 255, 6), 0)
		for _, r := range rightRaws() {
			keepsBytesApart(t, "RawWrite", data, func(b []byte) []byte {
				y, ok := impl.RawWrite(r, 0, b)
				if !ok {
					return nil
				}
				return y.Pending[len(y.Pending)-1].Data
			})
		}
	}
}

func TestRawKeepStays(t *testing.T) {
	r := rawOf(3, 0, 1, 1, 2, 0)
	for size := range 9 {
		room := joined(mixed(size, 8), ones(5))
		before := slices.Clone(room)
		got, ok := impl.RawCrash(r, room[:size])
		wantRaw(t, "spare room behind keep", got, ok, impl.Raw{Sectors: slowKept(r, mixed(size, 8))})
		if !slices.Equal(room, before) {
			t.Fatalf("RawCrash writes into keep or behind it: %v", room)
		}
	}
}

// One list of bytes at all places of an argument: the answer has one for each.
func TestListsThatAreOneComeApart(t *testing.T) {
	one := sectorOf(3)
	var r impl.Raw
	for i := range 4 {
		r.Sectors = append(r.Sectors, one)
		r.Pending = append(r.Pending, impl.Pend{At: 3 - i, Data: one})
	}
	wrote, ok := impl.RawWrite(r, 2, one)
	if !ok {
		t.Fatal("not written")
	}
	listsAreApart(t, "RawWrite", wrote)
	left, _ := impl.RawBarrier(r)
	listsAreApart(t, "RawBarrier", left)
	for _, keep := range keepsOf(4) {
		crashed, _ := impl.RawCrash(r, keep)
		listsAreApart(t, "RawCrash", crashed)
	}
	read, _ := impl.RawRead(r, 1)
	for _, answer := range [][]byte{read, wrote.Sectors[0], wrote.Pending[4].Data, left.Sectors[0]} {
		if spoil(answer); !bytes.Equal(one, sectorOf(3)) {
			t.Fatal("an argument changes with an answer")
		}
	}
}

// What lies behind a list's length is none of it.
func TestRawReadsNoSpare(t *testing.T) {
	room := rawOf(3, 0, 0, 2)
	r := impl.Raw{Sectors: room.Sectors[:2], Pending: room.Pending[:1]}
	readsAs(t, "spare room", r, [][]byte{room.Pending[0].Data, room.Sectors[1]})
	got, ok := impl.RawWrite(r, 2, sectorOf(4))
	wantNoRaw(t, "a sector in the spare room", got, ok)
	got, ok = impl.RawBarrier(r)
	wantRaw(t, "a barrier over spare room", got, ok, impl.Raw{Sectors: [][]byte{room.Pending[0].Data, room.Sectors[1]}})
	got, ok = impl.RawCrash(r, ones(3))
	wantRaw(t, "a crash over spare room", got, ok, impl.Raw{Sectors: [][]byte{room.Pending[0].Data, room.Sectors[1]}})
	got, ok = impl.RawWrite(r, 1, sectorOf(4)[:impl.RawBytes-1])
	wantNoRaw(t, "a byte in the spare room of the data", got, ok)
	r.Pending = room.Pending
	if impl.RawOk(r) {
		t.Fatal("a sector in the spare room is waited for")
	}
	short := rawOf(2, 1)
	short.Sectors[1] = short.Sectors[1][:impl.RawBytes-1]
	if impl.RawOk(short) {
		t.Fatal("a byte in the spare room of a sector is read")
	}
	short = rawOf(2, 1)
	short.Pending[0].Data = short.Pending[0].Data[:impl.RawBytes-1]
	if impl.RawOk(short) {
		t.Fatal("a byte in the spare room of what waits is read")
	}
	if impl.RawOk(impl.Raw{Sectors: room.Sectors[:0]}) {
		t.Fatal("sectors in the spare room are read")
	}
}

// Nothing is kept: answers of one call are not those of another one.
func TestRawKeepsNothing(t *testing.T) {
	first, _ := impl.RawNew(3)
	spoilRaw(first)
	second, ok := impl.RawNew(3)
	wantRaw(t, "RawNew again", second, ok, impl.Raw{Sectors: slices.Repeat([][]byte{make([]byte, impl.RawBytes)}, 3)})
	r := rawOf(3, 1, 2)
	a, _ := impl.RawWrite(r, 0, sectorOf(31))
	b, _ := impl.RawWrite(r, 0, sectorOf(32))
	wantSector(t, "one of two", a, 0, sectorOf(31))
	wantSector(t, "the other of two", b, 0, sectorOf(32))
	from, _ := impl.RawWrite(a, 1, sectorOf(33))
	other, _ := impl.RawWrite(a, 2, sectorOf(34))
	readsAs(t, "one over the first", from, [][]byte{sectorOf(31), sectorOf(33), sectorOf(1001)})
	readsAs(t, "the other over the first", other, [][]byte{sectorOf(31), sectorOf(1000), sectorOf(34)})
	spoilRaw(from)
	readsAs(t, "the other over the first, still", other, [][]byte{sectorOf(31), sectorOf(1000), sectorOf(34)})
	barrierHolds(t, r)
	crashHolds(t, r, []bool{false, true})
}
