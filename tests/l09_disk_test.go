package tests

import (
	"bytes"
	"fmt"
	"maps"
	"math"
	"slices"
	"testing"

	"loop.example/g00528/impl"
)

func clonedDisk(d impl.Disk) impl.Disk {
	c := d
	c.Raw, c.Open = clonedRaw(d.Raw), clonedPack(d.Open)
	c.Map, c.Saved = mapOf(slices.Clone(d.Map.L)...), mapOf(slices.Clone(d.Saved.L)...)
	c.Chain = slices.Clone(d.Chain)
	return c
}

func sameDisk(a impl.Disk, b impl.Disk) bool {
	return sameRaw(a.Raw, b.Raw) && a.Epoch == b.Epoch && a.Order == b.Order && sameMap(a.Map, b.Map) && sameMap(a.Saved, b.Saved) && slices.Equal(a.Chain, b.Chain) && samePack(a.Open, b.Open)
}

func diskText(d impl.Disk) string {
	return fmt.Sprintf("epoch %d, order %d, map %v, saved %v, chain %v, open %v, over %s", d.Epoch, d.Order, d.Map.L, d.Saved.L, d.Chain, d.Open, rawText(d.Raw))
}

func slowGeomOk(n int, raws int) bool {
	return n >= 1 && n <= 16 && raws >= 6 && raws <= 24 && n <= 3*raws-15
}

func slowDiskOk(d impl.Disk) bool {
	n, raws := len(d.Map.L), len(d.Raw.Sectors)
	if !impl.RawOk(d.Raw) || !slowMapOk(d.Map) || !slowMapOk(d.Saved) || n != len(d.Saved.L) || !slowGeomOk(n, raws) {
		return false
	}
	for _, w := range slices.Concat(d.Map.L, d.Saved.L) {
		if w.Sector >= raws {
			return false
		}
	}
	for i, sector := range d.Chain {
		if sector < 2 || sector >= raws || slices.Contains(d.Chain[:i], sector) {
			return false
		}
	}
	for _, x := range d.Open.Items {
		if x.Addr >= n {
			return false
		}
	}
	numbers := []int{d.Epoch, d.Order}
	return slices.Min(numbers) >= 0 && slices.Max(numbers) <= 60000 && d.Open.Epoch == 0 && d.Open.Order == 0 && slowPackOk(d.Open)
}

// slowFree takes what is right.
func slowFree(d impl.Disk) []int {
	l := []int{}
	for sector := 2; sector < len(d.Raw.Sectors); sector++ {
		if !slices.Contains(d.Chain, sector) && len(slowLive(d.Map, sector)) == 0 && len(slowLive(d.Saved, sector)) == 0 {
			l = append(l, sector)
		}
	}
	return l
}

func slowSettled(r impl.Raw) impl.Raw {
	return impl.Raw{Sectors: slowKept(r, ones(impl.MaxPending))}
}

func slowWrite(r impl.Raw, at int, data []byte) impl.Raw {
	if len(r.Pending) == 60 {
		r = slowSettled(r)
	}
	r = clonedRaw(r)
	r.Pending = append(r.Pending, impl.Pend{At: at, Data: data})
	return r
}

func slowSeal(d impl.Disk, back int) (impl.Disk, bool) {
	if len(d.Open.Items) == 0 {
		return d, true
	}
	free := slowFree(d)
	if len(free) <= back || d.Order == 60000 {
		return d, false
	}
	p := packOf(d.Epoch, d.Order+1, d.Open.Items...)
	c := clonedDisk(d)
	c.Order++
	c.Raw = slowWrite(c.Raw, free[0], slowPackBytes(p))
	c.Map, _ = slowApply(c.Map, free[0], p)
	c.Chain = append(c.Chain, free[0])
	c.Open = impl.Pack{}
	return c, true
}

func slowSave(d impl.Disk) (impl.Disk, bool) {
	if d.Epoch == 60000 {
		return d, false
	}
	c := clonedDisk(d)
	c.Epoch++
	c.Raw = slowSettled(slowWrite(slowSettled(c.Raw), c.Epoch%2, slowSuperBytes(c.Epoch, c.Map)))
	c.Order, c.Saved, c.Chain = 0, d.Map, nil
	return c, true
}

// slowSealOrSave seals; where that can't be, it saves, and seals.
func slowSealOrSave(d impl.Disk, back int) (impl.Disk, bool) {
	if c, ok := slowSeal(d, back); ok {
		return c, true
	}
	c, ok := slowSave(d)
	if !ok {
		return d, false
	}
	if c, ok = slowSeal(c, back); !ok {
		return d, false
	}
	return c, true
}

func slowFlush(d impl.Disk) (impl.Disk, bool) {
	c, ok := slowSealOrSave(d, 0)
	if !ok {
		return d, false
	}
	c.Raw = slowSettled(c.Raw)
	return c, true
}

func slowUnmount(d impl.Disk) (impl.Raw, int) {
	if !slowDiskOk(d) {
		return impl.Raw{}, impl.DkForm
	}
	c, ok := slowFlush(d)
	if !ok {
		return impl.Raw{}, impl.DkSpace
	}
	return c.Raw, impl.DkWell
}

// slowReplay takes what is right, and reads all sectors anew for each Order.
func slowReplay(r impl.Raw, epoch int, m impl.Map) (impl.Map, []int) {
	chain := []int{}
	for {
		found := false
		for at, sector := range slowSettled(r).Sectors {
			p, ok := slowPackRead(sector)
			if found || at < 2 || !ok || p.Epoch != epoch || p.Order != len(chain)+1 || slices.Contains(chain, at) {
				continue
			}
			next, ok := slowApply(m, at, p)
			if !ok {
				return m, chain
			}
			m, chain, found = next, append(chain, at), true
			break
		}
		if !found {
			return m, chain
		}
	}
}

func slowMount(r impl.Raw) (impl.Disk, int) {
	if !impl.RawOk(r) {
		return impl.Disk{}, impl.DkForm
	}
	sectors := slowSettled(r).Sectors
	if len(sectors) < 2 {
		return impl.Disk{}, impl.DkCorrupt
	}
	epoch, saved, ok := slowNewest(sectors[0], sectors[1])
	if !ok {
		return impl.Disk{}, impl.DkCorrupt
	}
	d := impl.Disk{Raw: r, Epoch: epoch, Saved: saved}
	d.Map, d.Chain = slowReplay(r, epoch, saved)
	d.Order = len(d.Chain)
	if !slowDiskOk(d) {
		return impl.Disk{}, impl.DkGeom
	}
	if d, ok = slowSave(d); !ok {
		return impl.Disk{}, impl.DkSpace
	}
	return d, impl.DkWell
}

func wantDisk(t *testing.T, name string, got impl.Disk, code int, want impl.Disk) {
	t.Helper()
	if code != impl.DkWell || !sameDisk(got, want) {
		t.Fatalf("%s: code %d, %s; want %s", name, code, diskText(got), diskText(want))
	}
	if !impl.DiskOk(got) {
		t.Fatalf("%s: not DiskOk: %s", name, diskText(got))
	}
}

func wantNoDisk(t *testing.T, name string, got impl.Disk, code int, want int) {
	t.Helper()
	if code != want || !sameDisk(got, impl.Disk{}) {
		t.Fatalf("%s: code %d, %s; want the zero value and %d", name, code, diskText(got), want)
	}
}

func wantNoMount(t *testing.T, name string, r impl.Raw, want int) {
	t.Helper()
	d, code := impl.Mount(r)
	wantNoDisk(t, name+": Mount", d, code, want)
}

// mountHolds holds what Mount tells, twice, against the model.
func mountHolds(t *testing.T, name string, r impl.Raw) (impl.Disk, int) {
	t.Helper()
	want, code := slowMount(r)
	for range 2 {
		got, is := impl.Mount(r)
		if code == impl.DkWell {
			wantDisk(t, name+": Mount of "+rawText(r), got, is, want)
		} else {
			wantNoDisk(t, name+": Mount of "+rawText(r), got, is, code)
		}
	}
	return want, code
}

func wantUnmounted(t *testing.T, name string, d impl.Disk, want impl.Raw) {
	t.Helper()
	got, code := impl.Unmount(d)
	wantRaw(t, fmt.Sprintf("%s: Unmount, code %d, of %s", name, code, diskText(d)), got, code == impl.DkWell, want)
}

func wantNotUnmounted(t *testing.T, name string, d impl.Disk, want int) {
	t.Helper()
	got, code := impl.Unmount(d)
	wantNoRaw(t, name+": Unmount of "+diskText(d), got, code == impl.DkWell)
	if code != want {
		t.Fatalf("%s: code %d, want %d", name, code, want)
	}
}

// unmountHolds tells the model's code.
func unmountHolds(t *testing.T, name string, d impl.Disk) int {
	t.Helper()
	want, code := slowUnmount(d)
	if code == impl.DkWell {
		wantUnmounted(t, name, d, want)
	} else {
		wantNotUnmounted(t, name, d, code)
	}
	return code
}

func wantReplayed(t *testing.T, name string, r impl.Raw, epoch int, m impl.Map, want impl.Map, chain ...int) {
	t.Helper()
	got, l, ok := impl.Replay(r, epoch, m)
	wantMap(t, name, got, ok, want)
	if !slices.Equal(l, chain) {
		t.Fatalf("%s: the sectors are %v, want %v", name, l, chain)
	}
}

func wantNotReplayed(t *testing.T, name string, r impl.Raw, epoch int, m impl.Map) {
	t.Helper()
	got, l, ok := impl.Replay(r, epoch, m)
	wantNoMap(t, name, got, ok)
	if len(l) != 0 {
		t.Fatalf("%s: the sectors are %v, want none", name, l)
	}
}

func wantFree(t *testing.T, name string, d impl.Disk, want ...int) {
	t.Helper()
	if l := impl.Free(d); !slices.Equal(l, want) {
		t.Fatalf("%s: Free is %v, want %v, of %s", name, l, want, diskText(d))
	}
}

type shape struct {
	n    int
	raws int
}

// shapes are all that a disk may have, those with the fewest sectors first.
func shapes() []shape {
	all := []shape{}
	for raws := 6; raws <= 24; raws++ {
		for n := 1; n <= min(16, 3*(raws-5)); n++ {
			all = append(all, shape{n, raws})
		}
	}
	return all
}

func nowhere(n int) impl.Map {
	return mapOf(make([]impl.Place, n)...)
}

func has(addr int, value int) impl.Item {
	return impl.Item{Addr: addr, Blob: runOf(value)}
}

func none(addr int) impl.Item {
	return impl.Item{Addr: addr}
}

// plainDisk has five addresses over eight sectors: 2 and 3 are in Chain, 4 and 6 by Saved, 2, 3 and 6 by Map; 5 and 7 are free.
func plainDisk() impl.Disk {
	return impl.Disk{
		Raw:   rawOf(8, 2, 3, 7),
		Epoch: 6,
		Order: 2,
		Map:   mapOf(in(2, 0), in(3, 1), in(0, 0), in(6, 0), in(2, 1)),
		Saved: mapOf(in(4, 0), in(0, 0), in(4, 1), in(6, 0), in(6, 1)),
		Chain: []int{2, 3},
		Open:  packOf(0, 0, has(4, 9), none(1)),
	}
}

// but is plainDisk with something else.
func but(change func(d *impl.Disk)) impl.Disk {
	d := plainDisk()
	change(&d)
	return d
}

// newDisk is what Format makes.
func newDisk(n int, raws int) impl.Disk {
	d := impl.Disk{Epoch: 1, Map: nowhere(n), Saved: nowhere(n)}
	for range raws {
		d.Raw.Sectors = append(d.Raw.Sectors, make([]byte, impl.RawBytes))
	}
	d.Raw.Sectors[1] = slowSuperBytes(1, d.Map)
	return d
}

// anyDisk is right; every second one has few sectors, so that often none is free.
func anyDisk(seed uint64) impl.Disk {
	all := shapes()
	if seed%2 == 0 {
		all = all[:18]
	}
	numbers := []int{0, 1, 7, 256, impl.MaxEpoch - 1, impl.MaxEpoch}
	waits := []int{0, 1, 5, impl.MaxPending - 1, impl.MaxPending}
	pick := picked(6, 9999, seed)
	s := all[pick[0]%len(all)]
	d := impl.Disk{Raw: rawOf(s.raws, picked(waits[pick[1]%5], s.raws-1, seed)...), Epoch: numbers[pick[2]%6], Order: numbers[pick[3]%6]}
	d.Map, d.Saved = scatteredIn(s.n, s.raws, seed), scatteredIn(s.n, s.raws, seed+5000)
	for i, kind := range picked(s.raws, pick[4]%4, seed+6000) {
		if i >= 2 && kind == 1 {
			d.Chain = append([]int{i}, d.Chain...)
		}
	}
	for addr, kind := range picked(s.n, pick[5]%4, seed+7000) {
		if kind == 1 {
			d.Open.Items = append([]impl.Item{none(addr)}, d.Open.Items...)
		} else if kind > 1 {
			d.Open.Items = append([]impl.Item{has(addr, int(seed)+addr)}, d.Open.Items...)
		}
	}
	return d
}

func rightDisks() []impl.Disk {
	all := []impl.Disk{
		plainDisk(),
		but(func(d *impl.Disk) { d.Chain, d.Open = nil, impl.Pack{} }),
		but(func(d *impl.Disk) { d.Chain, d.Open.Items = []int{}, []impl.Item{} }),
		but(func(d *impl.Disk) { d.Chain = []int{2} }),
		but(func(d *impl.Disk) { d.Chain = []int{7} }),
		but(func(d *impl.Disk) { d.Chain = []int{7, 5, 2, 3, 6, 4} }),
		but(func(d *impl.Disk) { d.Map.L[2] = in(7, 15) }),
		but(func(d *impl.Disk) { d.Saved.L[1] = in(7, 15) }),
		but(func(d *impl.Disk) { d.Map = d.Saved }),
		but(func(d *impl.Disk) { d.Map, d.Saved = nowhere(5), nowhere(5) }),
		but(func(d *impl.Disk) { d.Open = packOf(0, 0, has(0, 1), has(1, 2), none(2), has(3, 4), has(4, 5)) }),
		but(func(d *impl.Disk) { d.Raw = rawOf(8, alike(impl.MaxPending, 1)...) }),
	}
	for _, n := range []int{0, 1, impl.MaxEpoch - 1, impl.MaxEpoch} {
		all = append(all, but(func(d *impl.Disk) { d.Epoch = n }), but(func(d *impl.Disk) { d.Order = n }), but(func(d *impl.Disk) { d.Epoch, d.Order = n, n }))
	}
	for _, s := range []shape{{1, 6}, {3, 6}, {6, 7}, {9, 8}, {15, 10}, {16, 11}, {1, 24}, {16, 24}} {
		d := newDisk(s.n, s.raws)
		all = append(all, d)
		d.Map, d.Saved = together(s.n, s.raws-1), together(s.n, 2)
		d.Chain = []int{s.raws - 1, 2}
		d.Open = packOf(0, 0, has(s.n-1, 7))
		all = append(all, d)
	}
	return all
}

func wrongChains() map[string][]int {
	all := map[string][]int{
		"two alike":              {3, 3},
		"two alike, apart":       {3, 5, 2, 3},
		"the last ones alike":    {2, 7, 7},
		"all, and one again":     {2, 3, 4, 5, 6, 7, 2},
		"many":                   slices.Repeat([]int{4}, 1000),
		"a wrong one behind all": {2, 3, 4, 5, 6, 7, 8},
	}
	for _, sector := range []int{math.MinInt, -256, -1, 0, 1, 8, 9, 23, 24, 256, 258, 1 << 40, math.MaxInt} {
		all[fmt.Sprint("the sector ", sector)] = []int{sector}
		all[fmt.Sprint("the sector ", sector, " behind another one")] = []int{4, sector}
		all[fmt.Sprint("the sector ", sector, " ahead of another one")] = []int{sector, 4}
	}
	return all
}

func wrongOpens() map[string]impl.Pack {
	all := maps.Clone(fewWrongPacks())
	for _, n := range []int{math.MinInt, -1, 1, 2, impl.MaxEpoch, impl.MaxEpoch + 1, math.MaxInt} {
		all[fmt.Sprint("Open's Epoch ", n)] = packOf(n, 0, has(1, 1))
		all[fmt.Sprint("Open's Order ", n)] = packOf(0, n, has(1, 1))
		all[fmt.Sprint("Open's Epoch, no Items ", n)] = packOf(n, 0)
		all[fmt.Sprint("Open's Order, no Items ", n)] = packOf(0, n)
	}
	for _, addr := range []int{-1, 5, 6, 15, 16, 256, math.MaxInt} {
		all[fmt.Sprint("Open's Addr ", addr)] = packOf(0, 0, has(addr, 1))
		all[fmt.Sprint("Open's Addr, nothing ", addr)] = packOf(0, 0, none(addr))
		all[fmt.Sprint("Open's Addr, behind others ", addr)] = packOf(0, 0, has(4, 1), none(0), has(addr, 1))
	}
	return all
}

// fewWrongMaps leave away those that differ in a wrong place alone.
func fewWrongMaps() map[string]impl.Map {
	all := map[string]impl.Map{
		"a place less": mapOf(plainDisk().Map.L[:4]...),
		"a place more": nowhere(6),
		"one place":    nowhere(1),
		"MaxAddr":      nowhere(16),
	}
	for _, sector := range []int{8, 9, 22, 23} {
		for addr := range 5 {
			m := nowhere(5)
			m.L[addr] = in(sector, 3)
			all[fmt.Sprintf("%d is in the sector %d", addr, sector)] = m
		}
	}
	for name, m := range wrongMaps() {
		if len(m.L) != 1 || m.L[0].Sector == 1 {
			all[name] = m
		}
	}
	return all
}

// wrongDisks are not DiskOk, nearly all for one reason alone.
func wrongDisks() map[string]impl.Disk {
	all := map[string]impl.Disk{"the zero value": {}}
	for name, r := range wrongRaws() {
		all["Raw: "+name] = but(func(d *impl.Disk) { d.Raw = r })
	}
	for name, m := range fewWrongMaps() {
		all["Map: "+name] = but(func(d *impl.Disk) { d.Map, d.Open = m, impl.Pack{} })
		all["Saved: "+name] = but(func(d *impl.Disk) { d.Saved = m })
	}
	for name, l := range wrongChains() {
		all["Chain: "+name] = but(func(d *impl.Disk) { d.Chain = l })
	}
	for name, p := range wrongOpens() {
		all["Open: "+name] = but(func(d *impl.Disk) { d.Open = p })
	}
	for _, n := range []int{math.MinInt, -65536, -2, -1, impl.MaxEpoch + 1, impl.MaxEpoch + 2, 65536, math.MaxInt} {
		all[fmt.Sprint("Epoch ", n)] = but(func(d *impl.Disk) { d.Epoch = n })
		all[fmt.Sprint("Order ", n)] = but(func(d *impl.Disk) { d.Order = n })
	}
	for _, s := range []shape{{1, 1}, {1, 2}, {1, 5}, {4, 6}, {7, 7}, {10, 8}, {13, 9}, {16, 10}, {16, 6}} {
		d := newDisk(s.n, max(s.raws, 2))
		d.Raw.Sectors = d.Raw.Sectors[:s.raws]
		all[fmt.Sprintf("%d addresses, %d sectors", s.n, s.raws)] = d
	}
	return all
}

func TestGeomOk(t *testing.T) {
	far := []int{math.MinInt, math.MinInt + 5, -1 << 62, -256, 256, 1 << 61, 1 << 62, math.MaxInt/3 + 6, math.MaxInt}
	numbers := append(far, upTo(40)...)
	for i := range 5 {
		numbers = append(numbers, -1-i)
	}
	right := 0
	for _, n := range numbers {
		for _, raws := range numbers {
			if impl.GeomOk(n, raws) != slowGeomOk(n, raws) {
				t.Fatalf("GeomOk of %d, %d is %v", n, raws, impl.GeomOk(n, raws))
			}
			if slowGeomOk(n, raws) {
				right++
			}
		}
	}
	if right != len(shapes()) || right != 3+6+9+12+15+16*14 {
		t.Fatalf("%d shapes are right", right)
	}
}

func TestGeomOkByHand(t *testing.T) {
	for _, c := range []struct {
		n    int
		raws int
		ok   bool
	}{
		{0, 6, false}, {1, 6, true}, {3, 6, true}, {4, 6, false},
		{1, 5, false}, {0, 5, false}, {-1, 5, false},
		{6, 7, true}, {7, 7, false}, {15, 10, true}, {16, 10, false},
		{16, 11, true}, {17, 11, false}, {16, 24, true}, {17, 24, false}, {16, 25, false},
		{1, 24, true}, {1, 25, false}, {0, 24, false}, {-1, 24, false},
	} {
		if impl.GeomOk(c.n, c.raws) != c.ok {
			t.Fatalf("GeomOk of %d, %d is %v", c.n, c.raws, !c.ok)
		}
	}
}

func TestDiskOk(t *testing.T) {
	for _, d := range rightDisks() {
		if !slowDiskOk(d) || !impl.DiskOk(d) {
			t.Fatalf("%v, not DiskOk: %s", slowDiskOk(d), diskText(d))
		}
	}
	for seed := range uint64(500) {
		if d := anyDisk(seed); !slowDiskOk(d) || !impl.DiskOk(d) {
			t.Fatalf("%v, not DiskOk: %s", slowDiskOk(d), diskText(d))
		}
	}
	for name, d := range wrongDisks() {
		if slowDiskOk(d) || impl.DiskOk(d) {
			t.Fatalf("%s: %v, DiskOk: %s", name, slowDiskOk(d), diskText(d))
		}
	}
}

// A place is right or wrong by how many sectors there are.
func TestDiskOkOfEachLastSector(t *testing.T) {
	for raws := 6; raws <= impl.MaxRaw; raws++ {
		for sector := 2; sector < impl.MaxRaw; sector++ {
			d := newDisk(2, raws)
			d.Map.L[1] = in(sector, 0)
			e := newDisk(2, raws)
			e.Saved.L[0] = in(sector, 15)
			f := newDisk(2, raws)
			f.Chain = []int{sector}
			for _, d := range []impl.Disk{d, e, f} {
				if impl.DiskOk(d) != (sector < raws) {
					t.Fatalf("DiskOk is %v of %s", impl.DiskOk(d), diskText(d))
				}
			}
		}
	}
}

func TestFree(t *testing.T) {
	for _, d := range rightDisks() {
		wantFree(t, "a right one", d, slowFree(d)...)
	}
	for seed := range uint64(1000) {
		d := anyDisk(seed)
		wantFree(t, "any", d, slowFree(d)...)
	}
	for name, d := range wrongDisks() {
		wantFree(t, name, d)
	}
}

// What takes a sector, alone and with others: Chain, Map, Saved.
func TestFreeByHand(t *testing.T) {
	wantFree(t, "the plain one", plainDisk(), 5, 7)
	d := newDisk(2, 7)
	wantFree(t, "a new one", d, 2, 3, 4, 5, 6)
	d.Chain = []int{4}
	wantFree(t, "in Chain, nobody there", d, 2, 3, 5, 6)
	d.Chain = []int{6, 2}
	wantFree(t, "two in Chain", d, 3, 4, 5)
	d.Chain, d.Saved = nil, mapOf(in(0, 0), in(5, 3))
	wantFree(t, "by Saved alone", d, 2, 3, 4, 6)
	d.Saved, d.Map = nowhere(2), mapOf(in(5, 3), in(0, 0))
	wantFree(t, "by Map alone", d, 2, 3, 4, 6)
	d.Saved = mapOf(in(5, 3), in(0, 0))
	wantFree(t, "by both", d, 2, 3, 4, 6)
	d.Saved = mapOf(in(6, 3), in(2, 0))
	wantFree(t, "by one and by the other", d, 3, 4)
	d.Chain = []int{3, 5, 4}
	wantFree(t, "none", d)
	d.Open = packOf(0, 0, has(0, 1))
	d.Chain = []int{3}
	wantFree(t, "what is open takes none", d, 4)
	d.Raw.Pending = []impl.Pend{{At: 4, Data: sectorOf(4)}}
	d.Raw.Sectors[4] = slowPackBytes(packOf(1, 1, has(0, 1)))
	wantFree(t, "what a sector has, or what waits for it, takes none", d, 4)
}

func TestFormat(t *testing.T) {
	for _, s := range shapes() {
		name := fmt.Sprint("Format of ", s)
		d, code := impl.Format(s.n, s.raws)
		wantDisk(t, name, d, code, newDisk(s.n, s.raws))
		wantFree(t, name, d, upTo(s.raws - 1)[2:]...)
		found, code := impl.Mount(d.Raw)
		want := newDisk(s.n, s.raws)
		want.Epoch = 2
		want.Raw.Sectors[0] = slowSuperBytes(2, nowhere(s.n))
		wantDisk(t, name+", found again", found, code, want)
		for addr := -1; addr <= s.n; addr++ {
			for _, m := range []impl.Map{d.Map, d.Saved, found.Map, found.Saved} {
				wantWhere(t, name, m, addr, in(0, 0), false)
			}
		}
		wantUnmounted(t, name, d, d.Raw)
		wantUnmounted(t, name+", found again", found, want.Raw)
	}
}

func TestFormatRefuses(t *testing.T) {
	for _, n := range []int{math.MinInt, -1, 0, 1, 3, 4, 16, 17, 256, math.MaxInt} {
		for _, raws := range []int{math.MinInt, -1, 0, 1, 5, 6, 7, 23, 24, 25, 256, math.MaxInt} {
			if !slowGeomOk(n, raws) {
				d, code := impl.Format(n, raws)
				wantNoDisk(t, fmt.Sprintf("Format of %d, %d", n, raws), d, code, impl.DkGeom)
			}
		}
	}
}

// laid has noughts, and packs by their sectors.
func laid(raws int, packs map[int]impl.Pack) impl.Raw {
	r, _ := impl.RawNew(raws)
	for at, p := range packs {
		r.Sectors[at] = slowPackBytes(p)
	}
	return r
}

// waiting has one more that waits.
func waiting(r impl.Raw, at int, data []byte) impl.Raw {
	c := clonedRaw(r)
	c.Pending = append(c.Pending, impl.Pend{At: at, Data: data})
	return c
}

func TestReplayInOrder(t *testing.T) {
	first, second, third := packOf(9, 1, has(0, 1), has(1, 1)), packOf(9, 2, has(1, 2), none(3)), packOf(9, 3, has(2, 3), none(0))
	start := mapOf(in(0, 0), in(0, 0), in(0, 0), in(7, 2))
	r := laid(9, map[int]impl.Pack{6: first, 2: second, 4: third})
	wantReplayed(t, "all", r, 9, start, mapOf(in(0, 0), in(2, 0), in(4, 0), in(0, 0)), 6, 2, 4)
	wantReplayed(t, "another epoch", r, 8, start, start)
	wantReplayed(t, "the next epoch", r, 10, start, start)
	gap := laid(9, map[int]impl.Pack{6: first, 4: third})
	wantReplayed(t, "a gap", gap, 9, start, mapOf(in(6, 0), in(6, 1), in(0, 0), in(7, 2)), 6)
	wantReplayed(t, "no first one", laid(9, map[int]impl.Pack{2: second, 4: third}), 9, start, start)
	twice := laid(9, map[int]impl.Pack{6: first, 2: second, 4: packOf(9, 2, has(0, 5))})
	wantReplayed(t, "two of one Order", twice, 9, start, mapOf(in(6, 0), in(2, 0), in(0, 0), in(0, 0)), 6, 2)
	twice = laid(9, map[int]impl.Pack{8: first, 3: first, 5: second})
	wantReplayed(t, "two of the first Order", twice, 9, start, mapOf(in(3, 0), in(5, 0), in(0, 0), in(0, 0)), 3, 5)
	other := laid(9, map[int]impl.Pack{6: first, 2: packOf(8, 2, has(2, 1)), 4: third})
	wantReplayed(t, "one of another Epoch is a gap", other, 9, start, mapOf(in(6, 0), in(6, 1), in(0, 0), in(7, 2)), 6)
	other = laid(9, map[int]impl.Pack{2: packOf(8, 1, has(2, 1)), 3: packOf(10, 2, none(2)), 4: second, 5: first})
	wantReplayed(t, "those of other Epochs ahead", other, 9, start, mapOf(in(5, 0), in(4, 0), in(0, 0), in(0, 0)), 5, 4)
	wantReplayed(t, "an Order of nought", laid(6, map[int]impl.Pack{2: packOf(9, 0, has(2, 1))}), 9, start, start)
	wantReplayed(t, "packs in the first two", laid(6, map[int]impl.Pack{0: first, 1: first}), 9, start, start)
	wantReplayed(t, "the first two are gone by", laid(6, map[int]impl.Pack{0: first, 1: second, 3: first}), 9, start, mapOf(in(3, 0), in(3, 1), in(0, 0), in(7, 2)), 3)
}

// It ends at a sector at which an address is, though there is another one of that Order.
func TestReplayEndsWhereSomebodyIs(t *testing.T) {
	first, second, third := packOf(9, 1, has(0, 1)), packOf(9, 2, has(1, 2)), packOf(9, 3, has(2, 3))
	r := laid(9, map[int]impl.Pack{6: first, 2: second, 4: third})
	wantReplayed(t, "at the first one", r, 9, mapOf(in(0, 0), in(6, 5), in(0, 0)), mapOf(in(0, 0), in(6, 5), in(0, 0)))
	wantReplayed(t, "at the second one", r, 9, mapOf(in(0, 0), in(2, 5), in(0, 0)), mapOf(in(6, 0), in(2, 5), in(0, 0)), 6)
	wantReplayed(t, "at the third one", r, 9, mapOf(in(0, 0), in(0, 0), in(4, 5)), mapOf(in(6, 0), in(2, 0), in(4, 5)), 6, 2)
	wantReplayed(t, "who was there is gone by then", r, 9, mapOf(in(2, 5), in(4, 5), in(0, 0)), mapOf(in(6, 0), in(2, 0), in(4, 0)), 6, 2, 4)
	gone := laid(9, map[int]impl.Pack{6: packOf(9, 1, none(0)), 2: second})
	wantReplayed(t, "who was there is nowhere by then", gone, 9, mapOf(in(2, 5), in(0, 0)), mapOf(in(0, 0), in(2, 0)), 6, 2)
	twice := laid(9, map[int]impl.Pack{2: first, 3: first, 4: second})
	wantReplayed(t, "another one of that Order is free", twice, 9, mapOf(in(0, 0), in(2, 5), in(0, 0)), mapOf(in(0, 0), in(2, 5), in(0, 0)))
	empty := laid(9, map[int]impl.Pack{5: packOf(9, 1), 6: packOf(9, 2), 3: packOf(9, 3, has(0, 1))})
	wantReplayed(t, "packs without Items", empty, 9, nowhere(2), mapOf(in(3, 0), in(0, 0)), 5, 6, 3)
	wantReplayed(t, "one without Items where somebody is", empty, 9, mapOf(in(0, 0), in(6, 0)), mapOf(in(0, 0), in(6, 0)), 5)
	far := laid(9, map[int]impl.Pack{5: packOf(9, 1, has(15, 1), has(2, 1)), 6: packOf(9, 2, has(2, 4), has(1, 1))})
	wantReplayed(t, "addresses that the map has not", far, 9, nowhere(2), mapOf(in(0, 0), in(6, 1)), 5, 6)
	wantReplayed(t, "a place that the device has not", far, 9, mapOf(in(23, 3), in(0, 0)), mapOf(in(23, 3), in(6, 1)), 5, 6)
}

func TestReplayReadsWhatWaits(t *testing.T) {
	first, second, other := packOf(9, 1, has(0, 1)), packOf(9, 2, has(1, 2)), packOf(9, 2, has(2, 2))
	r := laid(9, map[int]impl.Pack{6: first})
	r = waiting(r, 2, slowPackBytes(second))
	wantReplayed(t, "one waits", r, 9, nowhere(3), mapOf(in(6, 0), in(2, 0), in(0, 0)), 6, 2)
	again := waiting(r, 2, slowPackBytes(other))
	wantReplayed(t, "the last one counts", again, 9, nowhere(3), mapOf(in(6, 0), in(0, 0), in(2, 0)), 6, 2)
	wantReplayed(t, "noughts wait there then", waiting(again, 2, make([]byte, impl.RawBytes)), 9, nowhere(3), mapOf(in(6, 0), in(0, 0), in(0, 0)), 6)
	wantReplayed(t, "noughts wait for the first one", waiting(r, 6, make([]byte, impl.RawBytes)), 9, nowhere(3), nowhere(3))
	moved := waiting(waiting(r, 6, sectorOf(1)), 8, slowPackBytes(first))
	wantReplayed(t, "the first one is somewhere else", moved, 9, nowhere(3), mapOf(in(8, 0), in(2, 0), in(0, 0)), 8, 2)
}

// Each sector has a pack: in order, turned, and from the middle on.
func TestReplayOfAsManyPacksAsSectors(t *testing.T) {
	for _, raws := range []int{1, 2, 3, 6, 7, impl.MaxRaw - 1, impl.MaxRaw} {
		for turn := range 3 {
			r := laid(raws, nil)
			chain := make([]int, max(0, raws-2))
			want := nowhere(16)
			for at := 2; at < raws; at++ {
				order := []int{at - 1, raws - at, 1 + (at+raws/2)%max(1, raws-2)}[turn]
				r.Sectors[at] = slowPackBytes(packOf(impl.MaxEpoch, order, has(15, 2), has(order%15, at)))
				chain[order-1] = at
			}
			for i, at := range chain {
				want.L[15], want.L[(i+1)%15] = in(at, 0), in(at, 1)
			}
			wantReplayed(t, fmt.Sprintf("%d sectors, turned by %d", raws, turn), r, impl.MaxEpoch, nowhere(16), want, chain...)
		}
	}
}

func TestReplayRefuses(t *testing.T) {
	r, m := laid(7, map[int]impl.Pack{5: packOf(9, 1, has(0, 1))}), nowhere(3)
	for _, epoch := range []int{math.MinInt, -1, impl.MaxEpoch + 1, 65536 + 9, math.MaxInt} {
		wantNotReplayed(t, fmt.Sprint("epoch ", epoch), r, epoch, m)
	}
	for name, wrong := range wrongRaws() {
		wantNotReplayed(t, name, wrong, 9, m)
	}
	for name, wrong := range wrongMaps() {
		wantNotReplayed(t, name, r, 9, wrong)
	}
	for _, epoch := range []int{0, 1, impl.MaxEpoch - 1, impl.MaxEpoch} {
		r := laid(7, map[int]impl.Pack{5: packOf(epoch, 1, has(0, 1))})
		wantReplayed(t, fmt.Sprint("epoch ", epoch), r, epoch, m, mapOf(in(5, 0), in(0, 0), in(0, 0)), 5)
	}
}

// anySector is mostly a pack of an epoch nearby with a small Order.
func anySector(epoch int, kind int, order int, seed uint64) []byte {
	p := packOf(epoch, order)
	for addr, size := range picked(impl.MaxAddr, 8, seed) {
		if size == 0 || size == 2 {
			p.Items = append(p.Items, impl.Item{Addr: addr, Blob: runOf(order)[:size]})
		}
	}
	switch kind {
	case 0:
		return sectorOf(int(seed))
	case 1:
		return slowSuperBytes(epoch, scattered(3, seed))
	case 2:
		p.Epoch = max(0, epoch-1)
	case 3:
		p.Epoch = min(impl.MaxEpoch, epoch+1)
	}
	return slowPackBytes(p)
}

// anyRaw has most often saved maps in its first two sectors, and packs in the others, few of them in order.
func anyRaw(seed uint64) impl.Raw {
	pick := picked(8, 9999, seed)
	s := shapes()[pick[0]%len(shapes())]
	epoch := []int{1, 2, 7, 8, 257, impl.MaxEpoch - 1, impl.MaxEpoch}[pick[1]%7]
	var r impl.Raw
	for at := range s.raws {
		order := 1 + (7*at+pick[2])%s.raws
		if pick[3]%3 == 0 {
			order = s.raws - at
		}
		r.Sectors = append(r.Sectors, anySector(epoch, (pick[4]+at*at)%(4+pick[5]%40), order, seed+uint64(at)))
	}
	saved := nowhere(s.n)
	if seed%3 == 0 {
		saved = scatteredIn(s.n, s.raws+int(seed%5)/4, seed)
		saved.L[0] = in(0, 0)
	}
	r.Sectors[epoch%2] = slowSuperBytes(epoch, saved)
	if seed%4 > 0 {
		r.Sectors[1-epoch%2] = slowSuperBytes(epoch-1, scatteredIn(s.n, s.raws, seed+1))
	}
	if seed%7 == 0 {
		r.Sectors[epoch%2][pick[6]%40]++
	}
	for i, at := range picked([]int{0, 2, 9, impl.MaxPending}[pick[7]%4], s.raws-1, seed+2) {
		if at >= 2 || i == 1 {
			r.Pending = append(r.Pending, impl.Pend{At: at, Data: anySector(epoch, i%6, 1+i%5, seed+uint64(100+i))})
		}
	}
	return r
}

func TestReplayOfAnyDevice(t *testing.T) {
	long := 0
	for seed := range uint64(1500) {
		r := anyRaw(seed)
		for _, epoch := range []int{1, 7, impl.MaxEpoch} {
			for _, m := range []impl.Map{nowhere(16), scattered(4, seed)} {
				want, chain := slowReplay(r, epoch, m)
				wantReplayed(t, fmt.Sprint("seed ", seed), r, epoch, m, want, chain...)
				if len(chain) > 3 {
					long++
				}
			}
		}
	}
	if long < 50 {
		t.Fatalf("only %d have more than three packs", long)
	}
}

// savedTwice has an older map in one of the first two sectors, a newer one in the other one.
func savedTwice(raws int, epoch int, older impl.Map, newer impl.Map) impl.Raw {
	r := laid(raws, nil)
	r.Sectors[(epoch-1)%2] = slowSuperBytes(epoch-1, older)
	r.Sectors[epoch%2] = slowSuperBytes(epoch, newer)
	return r
}

func wantMounted(t *testing.T, name string, r impl.Raw, epoch int, m impl.Map) impl.Disk {
	t.Helper()
	d, code := impl.Mount(r)
	want := impl.Disk{Raw: slowSettled(r), Epoch: epoch, Map: m, Saved: m}
	want.Raw.Sectors[epoch%2] = slowSuperBytes(epoch, m)
	wantDisk(t, name+": Mount", d, code, want)
	mountHolds(t, name, r)
	return d
}

func TestMountTakesTheNewerMap(t *testing.T) {
	older, newer := mapOf(in(2, 0), in(0, 0), in(3, 1)), mapOf(in(2, 0), in(4, 0), in(0, 0))
	for _, epoch := range []int{1, 2, 3, 256, 257, impl.MaxEpoch - 2, impl.MaxEpoch - 1} {
		r := savedTwice(7, epoch, older, newer)
		wantMounted(t, "both stand", r, epoch+1, newer)
		for at := range 40 {
			one := clonedRaw(r)
			one.Sectors[epoch%2][at] ^= 0x80
			if _, _, ok := slowSuperRead(one.Sectors[epoch%2]); ok {
				continue
			}
			wantMounted(t, "the newer one is spoilt", one, epoch, older)
			other := clonedRaw(r)
			other.Sectors[(epoch-1)%2][at] ^= 0x80
			if _, _, ok := slowSuperRead(other.Sectors[(epoch-1)%2]); ok {
				continue
			}
			wantMounted(t, "the older one is spoilt", other, epoch+1, newer)
			other.Sectors[epoch%2] = one.Sectors[epoch%2]
			wantNoMount(t, "both are spoilt", other, impl.DkCorrupt)
		}
	}
	alike := savedTwice(7, 5, older, newer)
	alike.Sectors[0] = slowSuperBytes(5, older)
	wantMounted(t, "of two of one epoch the first counts", alike, 6, older)
	turned := savedTwice(7, 5, older, newer)
	turned.Sectors[0], turned.Sectors[1] = turned.Sectors[1], turned.Sectors[0]
	wantMounted(t, "whichever sector the newer one is in", turned, 6, newer)
	r := savedTwice(7, 5, older, newer)
	wantMounted(t, "one that waits counts", waiting(r, 0, slowSuperBytes(8, older)), 9, older)
	wantMounted(t, "what waits spoils the newer one", waiting(r, 1, sectorOf(1)), 5, older)
	wantNoMount(t, "what waits spoils both", waiting(waiting(r, 1, sectorOf(1)), 0, sectorOf(2)), impl.DkCorrupt)
}

func TestMountReplays(t *testing.T) {
	saved := mapOf(in(2, 0), in(3, 0), in(0, 0), in(3, 1))
	r := savedTwice(9, 5, nowhere(4), saved)
	r.Sectors[7] = slowPackBytes(packOf(5, 1, has(0, 1), none(1), has(2, 3)))
	r.Sectors[4] = slowPackBytes(packOf(5, 2, has(2, 4)))
	r.Sectors[5] = slowPackBytes(packOf(5, 4, has(3, 4)))
	r.Sectors[6] = slowPackBytes(packOf(4, 1, has(3, 4)))
	after := mapOf(in(7, 0), in(0, 0), in(4, 0), in(3, 1))
	d := wantMounted(t, "two packs", r, 6, after)
	wantFree(t, "two packs", d, 2, 5, 6, 8)
	wantMounted(t, "mounted again", d.Raw, 7, after)
	r = waiting(r, 8, slowPackBytes(packOf(5, 3, none(0), has(1, 4))))
	d = wantMounted(t, "a third one waits, the fourth one counts", r, 6, mapOf(in(0, 0), in(8, 1), in(4, 0), in(5, 0)))
	wantFree(t, "all four", d, 2, 3, 6, 7)
	r.Sectors[1][9] ^= 1
	wantMounted(t, "the newer map is spoilt: the packs of the older epoch count", r, 5, mapOf(in(0, 0), in(0, 0), in(0, 0), in(6, 0)))
}

func TestMountRefuses(t *testing.T) {
	for name, r := range wrongRaws() {
		wantNoMount(t, name, r, impl.DkForm)
	}
	for n := 1; n <= impl.MaxRaw; n++ {
		wantNoMount(t, "noughts", laid(n, nil), impl.DkCorrupt)
		wantNoMount(t, "any sectors", rawOf(n, 0), impl.DkCorrupt)
	}
	alone := laid(1, nil)
	alone.Sectors[0] = slowSuperBytes(5, nowhere(1))
	wantNoMount(t, "one sector, a saved map", alone, impl.DkCorrupt)
	wantNoMount(t, "one sector, one waits", waiting(alone, 0, slowSuperBytes(6, nowhere(1))), impl.DkCorrupt)
	for name, b := range refusedSupers() {
		if len(b) == impl.RawBytes {
			r := laid(7, map[int]impl.Pack{2: packOf(258, 1)})
			r.Sectors[0], r.Sectors[1] = b, b
			wantNoMount(t, name, r, impl.DkCorrupt)
		}
	}
	third := laid(7, nil)
	third.Sectors[2] = slowSuperBytes(5, nowhere(1))
	wantNoMount(t, "a map in the third sector", third, impl.DkCorrupt)
}

func TestMountRefusesShapes(t *testing.T) {
	for n := 1; n <= impl.MaxAddr; n++ {
		for raws := 2; raws <= impl.MaxRaw; raws++ {
			for _, epoch := range []int{5, impl.MaxEpoch} {
				r := savedTwice(raws, epoch, nowhere(1), nowhere(n))
				switch {
				case !slowGeomOk(n, raws):
					wantNoMount(t, fmt.Sprint("shape ", n, raws), r, impl.DkGeom)
				case epoch == impl.MaxEpoch:
					wantNoMount(t, fmt.Sprint("shape ", n, raws), r, impl.DkSpace)
				default:
					wantMounted(t, fmt.Sprint("shape ", n, raws), r, epoch+1, nowhere(n))
				}
			}
		}
	}
	for raws := 6; raws <= impl.MaxRaw; raws++ {
		for sector := 2; sector < impl.MaxRaw; sector++ {
			m := mapOf(in(0, 0), in(sector, 3))
			r := savedTwice(raws, 5, nowhere(2), m)
			if sector < raws {
				wantMounted(t, "a place that is there", r, 6, m)
				continue
			}
			wantNoMount(t, "a place in no sector", r, impl.DkGeom)
			wantNoMount(t, "a place in no sector, no epoch left", savedTwice(raws, impl.MaxEpoch, nowhere(2), m), impl.DkGeom)
			r.Sectors[2] = slowPackBytes(packOf(5, 1, has(1, 2)))
			wantNoMount(t, "a place in no sector, which a pack would mend", r, impl.DkGeom)
		}
	}
}

func TestMountAtTheLastEpochs(t *testing.T) {
	m := mapOf(in(2, 0), in(5, 1))
	d := wantMounted(t, "two are left", savedTwice(7, impl.MaxEpoch-2, nowhere(2), m), impl.MaxEpoch-1, m)
	d = wantMounted(t, "one is left", d.Raw, impl.MaxEpoch, m)
	wantNoMount(t, "none is left", d.Raw, impl.DkSpace)
	d.Raw.Sectors[impl.MaxEpoch%2] = sectorOf(1)
	wantMounted(t, "the last one is spoilt", d.Raw, impl.MaxEpoch, m)
}

// hasPackOf tells whether a sector from 2 on is a pack of this epoch.
func hasPackOf(r impl.Raw, epoch int) bool {
	return slices.ContainsFunc(slowSettled(r).Sectors[2:], func(b []byte) bool {
		p, ok := slowPackRead(b)
		return ok && p.Epoch == epoch
	})
}

// Promise 13: who mounts twice finds the same; who mounts what Mount left finds the same map over the same packs.
func TestMountFindsTheSame(t *testing.T) {
	codes, again := map[int]int{}, 0
	for seed := range uint64(3000) {
		r := anyRaw(seed)
		d, code := mountHolds(t, fmt.Sprint("seed ", seed), r)
		codes[code]++
		if code != impl.DkWell || d.Epoch == impl.MaxEpoch || hasPackOf(r, d.Epoch) {
			continue
		}
		for range 3 {
			e, code := impl.Mount(d.Raw)
			if code != impl.DkWell || !sameMap(e.Map, d.Map) || !sameMap(e.Saved, d.Map) || e.Epoch != d.Epoch+1 {
				t.Fatalf("seed %d: code %d, %s; behind %s", seed, code, diskText(e), diskText(d))
			}
			if !slices.EqualFunc(e.Raw.Sectors[2:], slowSettled(r).Sectors[2:], bytes.Equal) {
				t.Fatalf("seed %d: a sector from 2 on is not as it was read", seed)
			}
			again++
			if d = e; d.Epoch == impl.MaxEpoch || hasPackOf(r, d.Epoch) {
				break
			}
		}
	}
	if codes[impl.DkWell] < 1000 || codes[impl.DkSpace] < 100 || codes[impl.DkGeom] < 50 || codes[impl.DkCorrupt] < 20 || again < 1000 {
		t.Fatalf("codes %v, %d were mounted again", codes, again)
	}
}

func TestUnmountRefuses(t *testing.T) {
	for name, d := range wrongDisks() {
		wantNotUnmounted(t, name, d, impl.DkForm)
	}
	full := but(func(d *impl.Disk) {
		d.Map = mapOf(in(2, 0), in(3, 0), in(4, 0), in(5, 0), in(6, 0))
		d.Chain = []int{7, 7}
	})
	wantNotUnmounted(t, "Form counts ahead of Space", full, impl.DkForm)
}

// Nothing is open: all that waits is written, whatever else there is.
func TestFlushOfNothing(t *testing.T) {
	for _, d := range rightDisks() {
		d.Open = impl.Pack{}
		wantUnmounted(t, "nothing is open", d, slowSettled(d.Raw))
	}
	full := newDisk(9, 8)
	full.Map, full.Saved = mapOf(in(2, 0), in(3, 0), in(4, 0), in(5, 0), in(6, 0), in(7, 0), in(0, 0), in(0, 0), in(0, 0)), together(9, 4)
	full.Epoch, full.Order = impl.MaxEpoch, impl.MaxEpoch
	full.Raw = waiting(full.Raw, 5, sectorOf(5))
	wantUnmounted(t, "nothing is free, nothing is left", full, slowSettled(full.Raw))
}

// packedAt is what a flush leaves: all that waited, and a pack.
func packedAt(d impl.Disk, at int, p impl.Pack) impl.Raw {
	r := slowSettled(d.Raw)
	r.Sectors[at] = slowPackBytes(p)
	return r
}

func TestFlushToAFreeSector(t *testing.T) {
	d := plainDisk()
	wantUnmounted(t, "the first free one", d, packedAt(d, 5, packOf(6, 3, has(4, 9), none(1))))
	d.Chain = []int{5, 3, 2}
	wantUnmounted(t, "the only free one", d, packedAt(d, 7, packOf(6, 3, has(4, 9), none(1))))
	d.Open = packOf(0, 0, none(0))
	wantUnmounted(t, "nothing is to be there", d, packedAt(d, 7, packOf(6, 3, none(0))))
	d = newDisk(3, 6)
	d.Open = packOf(0, 0, has(2, 1), has(0, 2), has(1, 3))
	wantUnmounted(t, "a new one", d, packedAt(d, 2, packOf(1, 1, has(2, 1), has(0, 2), has(1, 3))))
	d = newDisk(4, 7)
	d.Open = packOf(0, 0, sized(65, 65, 65, 47).Items...)
	wantUnmounted(t, "a full pack", d, packedAt(d, 2, packOf(1, 1, d.Open.Items...)))
}

// savedThen is what a flush leaves that saves first: the map of the next epoch, then a pack of it.
func savedThen(d impl.Disk, at int) impl.Raw {
	r := packedAt(d, at, packOf(d.Epoch+1, 1, d.Open.Items...))
	r.Sectors[(d.Epoch+1)%2] = slowSuperBytes(d.Epoch+1, d.Map)
	return r
}

func TestFlushWithNoneFree(t *testing.T) {
	d := plainDisk()
	d.Chain = []int{2, 7, 3, 5}
	wantUnmounted(t, "Chain is free behind a save", d, savedThen(d, 4))
	d.Epoch = 7
	wantUnmounted(t, "in the other sector", d, savedThen(d, 4))
	d.Map.L[2] = in(4, 9)
	wantUnmounted(t, "those in Chain at which nobody is", d, savedThen(d, 5))
	d.Chain, d.Saved = nil, mapOf(in(5, 0), in(7, 0), in(0, 0), in(0, 0), in(0, 0))
	wantUnmounted(t, "those at which some are by Saved alone", d, savedThen(d, 5))
	d.Map.L[2] = in(5, 0)
	d.Map.L[1] = in(4, 1)
	d.Saved.L[2] = in(3, 0)
	wantUnmounted(t, "another one by Saved alone", d, savedThen(d, 3))
	d.Order = impl.MaxEpoch
	wantUnmounted(t, "no Order is left, either", d, savedThen(d, 3))
	d.Epoch = impl.MaxEpoch - 1
	wantUnmounted(t, "the last epoch", d, savedThen(d, 3))
	d.Epoch = impl.MaxEpoch
	wantNotUnmounted(t, "no epoch is left", d, impl.DkSpace)
}

func TestFlushThatCantBe(t *testing.T) {
	d := newDisk(9, 8)
	d.Map = mapOf(in(2, 0), in(3, 0), in(4, 0), in(5, 0), in(6, 0), in(7, 0), in(0, 0), in(0, 0), in(0, 0))
	d.Open = packOf(0, 0, has(8, 1))
	wantNotUnmounted(t, "somebody is at each sector", d, impl.DkSpace)
	d.Open = packOf(0, 0, none(0))
	wantNotUnmounted(t, "though one would be free then", d, impl.DkSpace)
	d.Saved = together(9, 3)
	d.Chain = []int{2, 3, 4, 5, 6, 7}
	wantNotUnmounted(t, "whatever else needs them", d, impl.DkSpace)
	d.Map.L[3] = in(2, 1)
	wantUnmounted(t, "nobody is at one of them", d, savedThen(d, 5))
	d.Epoch = impl.MaxEpoch
	wantNotUnmounted(t, "nobody is at one, no epoch is left", d, impl.DkSpace)
	d.Chain = []int{2, 3, 4, 6, 7}
	wantUnmounted(t, "one is free, no epoch is left", d, packedAt(d, 5, packOf(impl.MaxEpoch, 1, none(0))))
}

func TestFlushAtTheLastOrders(t *testing.T) {
	for _, epoch := range []int{0, 1, 2, impl.MaxEpoch - 1} {
		d := plainDisk()
		d.Epoch, d.Order = epoch, impl.MaxEpoch-1
		wantUnmounted(t, "the last Order", d, packedAt(d, 5, packOf(epoch, impl.MaxEpoch, d.Open.Items...)))
		d.Order = impl.MaxEpoch
		wantUnmounted(t, "no Order is left", d, savedThen(d, 4))
	}
	d := plainDisk()
	d.Epoch, d.Order = impl.MaxEpoch, impl.MaxEpoch-1
	wantUnmounted(t, "the last of all", d, packedAt(d, 5, packOf(impl.MaxEpoch, impl.MaxEpoch, d.Open.Items...)))
	d.Order = impl.MaxEpoch
	wantNotUnmounted(t, "neither is left", d, impl.DkSpace)
}

// As many wait as may, or one less: the pack is written behind all of them.
func TestFlushBehindWhatWaits(t *testing.T) {
	for many := impl.MaxPending - 2; many <= impl.MaxPending; many++ {
		for _, at := range []int{0, 1, 2, 5, 7} {
			d := plainDisk()
			d.Raw = rawOf(8, alike(many, at)...)
			wantUnmounted(t, fmt.Sprint(many, " wait for ", at), d, packedAt(d, 5, packOf(6, 3, has(4, 9), none(1))))
			d.Chain = []int{2, 7, 3, 5}
			wantUnmounted(t, fmt.Sprint(many, " wait for ", at, ", saved"), d, savedThen(d, 4))
			r := savedTwice(8, 7, nowhere(5), plainDisk().Map)
			for i := range many {
				r = waiting(r, 2+at%6, sectorOf(i))
			}
			wantMounted(t, fmt.Sprint(many, " wait for ", at, ", mounted"), r, 8, plainDisk().Map)
		}
	}
}

func TestUnmountOfAnyDisk(t *testing.T) {
	codes, saved := map[int]int{}, 0
	for seed := range uint64(4000) {
		d := anyDisk(seed)
		codes[unmountHolds(t, fmt.Sprint("seed ", seed), d)]++
		if c, ok := slowFlush(d); ok && c.Epoch != d.Epoch {
			saved++
		}
	}
	if codes[impl.DkWell] < 1000 || codes[impl.DkSpace] < 50 || saved < 100 {
		t.Fatalf("codes %v, %d were saved", codes, saved)
	}
}

// blobAt is what the place of an address has.
func blobAt(t *testing.T, d impl.Disk, addr int) []byte {
	t.Helper()
	w := d.Map.L[addr]
	if w == in(0, 0) {
		return nil
	}
	b, _ := impl.RawRead(d.Raw, w.Sector)
	p, ok := impl.PackRead(b)
	if !ok || w.Index >= len(p.Items) || p.Items[w.Index].Addr != addr {
		t.Fatalf("the address %d is not at its place: %s", addr, diskText(d))
	}
	return p.Items[w.Index].Blob
}

// someItems are of some addresses, one at least.
func someItems(n int, seed uint64) []impl.Item {
	l := []impl.Item{has(int(seed)%n, int(seed))}
	for addr, kind := range picked(n, 3, seed) {
		if addr == int(seed)%n || kind == 0 {
			continue
		}
		x := none(addr)
		if kind > 1 {
			x = has(addr, int(seed)+addr)
		}
		l = append(l, x)
	}
	return l
}

// What was open when a disk was unmounted is found again, where it is mounted; all else is as it was.
func TestWhatIsFoundAgainIsWhatWas(t *testing.T) {
	refused := 0
	for i, s := range shapes() {
		d, _ := impl.Format(s.n, s.raws)
		want := make([][]byte, s.n)
		for round := range uint64(25) {
			d.Open.Items = someItems(s.n, round+uint64(100*i))
			if unmountHolds(t, fmt.Sprint("shape ", s), d) != impl.DkWell {
				refused++
				d.Open.Items = nil
			}
			for _, x := range d.Open.Items {
				want[x.Addr] = x.Blob
			}
			r, _ := impl.Unmount(d)
			mountHolds(t, fmt.Sprint("shape ", s), r)
			d, _ = impl.Mount(r)
			for addr := range s.n {
				if got := blobAt(t, d, addr); !bytes.Equal(got, want[addr]) {
					t.Fatalf("shape %v, round %d: %d has %v, want %v", s, round, addr, got, want[addr])
				}
			}
		}
	}
	if refused > 100 {
		t.Fatalf("%d were refused", refused)
	}
}

// placesAreApart spoils one of both lists of places, and looks at the other one.
func placesAreApart(t *testing.T, name string, d impl.Disk) {
	t.Helper()
	before := clonedDisk(d)
	spoilPlaces(d.Map.L)
	if !sameMap(d.Saved, before.Saved) {
		t.Fatalf("%s: Saved changes with Map", name)
	}
	copy(d.Map.L, before.Map.L)
	spoilPlaces(d.Saved.L)
	if !sameMap(d.Map, before.Map) {
		t.Fatalf("%s: Map changes with Saved", name)
	}
	copy(d.Saved.L, before.Saved.L)
}

// roomyDisk has spare room behind each list.
func roomyDisk(d impl.Disk) impl.Disk {
	room := d
	room.Raw, room.Open = roomyRaw(d.Raw), roomyPack(d.Open)
	room.Map.L, room.Saved.L = roomyMap(d.Map), roomyMap(d.Saved)
	room.Chain = slices.Concat(d.Chain, []int{4, -1, 99})
	return room
}

// cutDisk has of a roomy disk what the disk has, and the rest as spare room.
func cutDisk(room impl.Disk, d impl.Disk) impl.Disk {
	c := room
	c.Raw = impl.Raw{Sectors: room.Raw.Sectors[:len(d.Raw.Sectors)], Pending: room.Raw.Pending[:len(d.Raw.Pending)]}
	c.Open.Items = room.Open.Items[:len(d.Open.Items)]
	c.Map.L, c.Saved.L = room.Map.L[:len(d.Map.L)], room.Saved.L[:len(d.Saved.L)]
	c.Chain = room.Chain[:len(d.Chain)]
	return c
}

// wholeDisk shows what lies behind each list, too.
func wholeDisk(d impl.Disk) impl.Disk {
	c := d
	c.Raw, c.Open = wholeRaw(d.Raw), wholePack(d.Open)
	c.Map.L, c.Saved.L = slices.Clone(d.Map.L[:cap(d.Map.L)]), slices.Clone(d.Saved.L[:cap(d.Saved.L)])
	c.Chain = slices.Clone(d.Chain[:cap(d.Chain)])
	return c
}

func spoilDisk(d impl.Disk) {
	spoilRaw(d.Raw)
	spoilPack(d.Open)
	spoilPlaces(d.Map.L)
	spoilPlaces(d.Saved.L)
	for i := range d.Chain[:cap(d.Chain)] {
		d.Chain[:cap(d.Chain)][i] -= 1000
	}
}

// keepsDiskApart calls do with a disk that has spare room, and tells where this or the answer are changed through one another.
func keepsDiskApart(t *testing.T, name string, d impl.Disk, do func(d impl.Disk) impl.Disk) {
	t.Helper()
	room := roomyDisk(d)
	before := wholeDisk(room)
	answer := do(cutDisk(room, d))
	if !sameDisk(wholeDisk(room), before) {
		t.Fatalf("%s of %s writes into its argument or behind it", name, diskText(d))
	}
	want := clonedDisk(answer)
	if !sameDisk(want, do(clonedDisk(d))) {
		t.Fatalf("%s of %s tells something else with spare room: %s", name, diskText(d), diskText(answer))
	}
	listsAreApart(t, name, answer.Raw)
	placesAreApart(t, name, answer)
	blobsAreApart(t, name, answer.Open)
	spoilDisk(room)
	if !sameDisk(answer, want) {
		t.Fatalf("%s of %s: the answer changes with the argument", name, diskText(d))
	}
	room = roomyDisk(d)
	answer = do(cutDisk(room, d))
	spoilDisk(answer)
	if !sameDisk(wholeDisk(room), before) {
		t.Fatalf("%s of %s: the argument changes with the answer", name, diskText(d))
	}
}

// diskDoes has what each function tells of a disk, or of its parts, as a disk.
func diskDoes() map[string]func(d impl.Disk) impl.Disk {
	return map[string]func(d impl.Disk) impl.Disk{
		"DiskOk": func(d impl.Disk) impl.Disk {
			if impl.DiskOk(d) {
				return impl.Disk{Epoch: 1}
			}
			return impl.Disk{}
		},
		"Free":    func(d impl.Disk) impl.Disk { return impl.Disk{Chain: impl.Free(d)} },
		"Unmount": func(d impl.Disk) impl.Disk { r, code := impl.Unmount(d); return impl.Disk{Raw: r, Epoch: code} },
		"Mount":   func(d impl.Disk) impl.Disk { e, code := impl.Mount(d.Raw); e.Order += 10 * code; return e },
		"Replay": func(d impl.Disk) impl.Disk {
			m, l, ok := impl.Replay(d.Raw, d.Epoch, d.Map)
			return impl.Disk{Map: m, Chain: l, Epoch: len(fmt.Sprint(ok))}
		},
	}
}

func TestDiskArgumentsStay(t *testing.T) {
	all := append(rightDisks(), slices.Collect(maps.Values(wrongDisks()))...)
	for seed := range uint64(150) {
		all = append(all, anyDisk(seed))
		r := anyRaw(seed)
		d, _ := slowMount(r)
		d.Raw, d.Epoch = r, max(0, d.Epoch-1)
		all = append(all, d)
	}
	for name, do := range diskDoes() {
		for _, d := range all {
			keepsDiskApart(t, name, d, do)
		}
	}
}

// One list at several places of an argument: the answer has one for each.
func TestListsOfADiskComeApart(t *testing.T) {
	d := newDisk(3, 6)
	one := make([]byte, impl.RawBytes)
	for at := range d.Raw.Sectors {
		d.Raw.Sectors[at] = one
		d.Raw.Pending = append(d.Raw.Pending, impl.Pend{At: at, Data: one})
	}
	d.Saved = d.Map
	d.Open = packOf(0, 0, has(1, 1))
	r, code := impl.Unmount(d)
	if code != impl.DkWell {
		t.Fatal(code)
	}
	listsAreApart(t, "Unmount", r)
	super := slowSuperBytes(7, nowhere(3))
	d.Raw = impl.Raw{Sectors: [][]byte{super, super, one, one, one, one}, Pending: []impl.Pend{{At: 0, Data: super}, {At: 3, Data: one}}}
	found, code := impl.Mount(d.Raw)
	if code != impl.DkWell {
		t.Fatal(code)
	}
	listsAreApart(t, "Mount", found.Raw)
	placesAreApart(t, "Mount", found)
	fresh, _ := impl.Format(3, 6)
	listsAreApart(t, "Format", fresh.Raw)
	placesAreApart(t, "Format", fresh)
	spoilDisk(found)
	spoilRaw(r)
	if !bytes.Equal(super, slowSuperBytes(7, nowhere(3))) || !bytes.Equal(one, make([]byte, impl.RawBytes)) || !sameMap(d.Map, nowhere(3)) {
		t.Fatal("an argument changes with an answer")
	}
}

// Nothing is kept: answers of one call are not those of another one, behind a refusal, too.
func TestDisksKeepNothing(t *testing.T) {
	for range 2 {
		d, code := impl.Format(5, 8)
		wantDisk(t, "Format again", d, code, newDisk(5, 8))
		spoilDisk(d)
		r := savedTwice(8, 5, nowhere(5), plainDisk().Map)
		spoilDisk(wantMounted(t, "Mount again", r, 6, plainDisk().Map))
		wantNoMount(t, "a refusal between", laid(8, nil), impl.DkCorrupt)
		l := impl.Free(plainDisk())
		for i := range l[:cap(l)] {
			l[:cap(l)][i] = -1
		}
		wantFree(t, "Free again", plainDisk(), 5, 7)
		wantFree(t, "a refusal between", impl.Disk{})
		left, _ := impl.Unmount(plainDisk())
		spoilRaw(left)
		wantUnmounted(t, "Unmount again", plainDisk(), packedAt(plainDisk(), 5, packOf(6, 3, has(4, 9), none(1))))
	}
}
