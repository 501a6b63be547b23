package tests

import (
	"bytes"
	"fmt"
	"math"
	"slices"
	"testing"

	"loop.example/g00528/impl"
)

// slowVictim takes what is right.
func slowVictim(d impl.Disk) int {
	found, fewest := -1, 17
	for sector := 2; sector < len(d.Raw.Sectors); sector++ {
		many := len(slowLive(d.Map, sector))
		if many > 0 && many < fewest && !slices.Contains(d.Chain, sector) {
			found, fewest = sector, many
		}
	}
	return found
}

func isOpen(d impl.Disk, addr int) bool {
	return slices.ContainsFunc(d.Open.Items, func(x impl.Item) bool { return x.Addr == addr })
}

func slowCleanOf(d impl.Disk) (impl.Disk, int) {
	if !slowDiskOk(d) {
		return impl.Disk{}, impl.DkForm
	}
	victim := slowVictim(d)
	c := clonedDisk(d)
	for addr, w := range d.Map.L {
		if w.Sector != victim || c.Map.L[addr].Sector != victim || isOpen(c, addr) {
			continue
		}
		block, code := slowReadOf(c, addr)
		if code != impl.DkWell {
			return d, code
		}
		blob, _ := slowEncode(block)
		if c, code = slowPutKeeping(c, impl.Item{Addr: addr, Blob: blob}, 0); code != impl.DkWell {
			return d, code
		}
	}
	return c, impl.DkWell
}

// slowCheck takes what is right.
func slowCheck(d impl.Disk) int {
	for addr := range d.Map.L {
		if _, ok := slowHas(d, addr); !ok {
			return addr
		}
	}
	return -1
}

// slowLiveBytes takes what is right.
func slowLiveBytes(d impl.Disk) int {
	size := 0
	for addr := range d.Map.L {
		blob, _ := slowHas(d, addr)
		size += len(blob)
	}
	return size
}

func cleanHolds(t *testing.T, name string, d impl.Disk) (impl.Disk, int) {
	t.Helper()
	want, wantCode := slowCleanOf(d)
	got, code := impl.Clean(d)
	return sameAnswer(t, name+": Clean", d, got, code, want, wantCode)
}

func wantCleaned(t *testing.T, name string, d impl.Disk, want impl.Disk) impl.Disk {
	t.Helper()
	got, code := impl.Clean(d)
	wantDisk(t, name+": Clean of "+diskText(d), got, code, want)
	cleanHolds(t, name, d)
	return got
}

func wantNotCleaned(t *testing.T, name string, d impl.Disk, want int) {
	t.Helper()
	got, code := impl.Clean(d)
	wantAsItWas(t, name+": Clean", d, got, code, want)
	cleanHolds(t, name, d)
}

func wantVictim(t *testing.T, name string, d impl.Disk, want int) {
	t.Helper()
	if got := impl.Victim(d); got != want {
		t.Fatalf("%s: Victim is %d, want %d, of %s", name, got, want, diskText(d))
	}
}

func wantCheck(t *testing.T, name string, d impl.Disk, want int) {
	t.Helper()
	if got := impl.Check(d); got != want {
		t.Fatalf("%s: Check is %d, want %d, of %s", name, got, want, diskText(d))
	}
}

func wantBytes(t *testing.T, name string, d impl.Disk, want int) {
	t.Helper()
	if got := impl.LiveBytes(d); got != want {
		t.Fatalf("%s: LiveBytes is %d, want %d, of %s", name, got, want, diskText(d))
	}
}

func wantUsed(t *testing.T, name string, d impl.Disk, want int) {
	t.Helper()
	if got := impl.UsedSectors(d); got != want {
		t.Fatalf("%s: UsedSectors is %d, want %d, of %s", name, got, want, diskText(d))
	}
}

// roomHolds is promise 14's part: sectors are free, or are not; those at which an address is are not; what is cleaned next has something.
func roomHolds(t *testing.T, name string, d impl.Disk) {
	t.Helper()
	free := impl.Free(d)
	for i, sector := range free {
		if sector < 2 || sector >= len(d.Raw.Sectors) || slices.Contains(free[:i], sector) {
			t.Fatalf("%s: %v are free of %s", name, free, diskText(d))
		}
	}
	wantUsed(t, name, d, len(d.Raw.Sectors)-2-len(free))
	for _, w := range slices.Concat(d.Map.L, d.Saved.L) {
		if slices.Contains(free, w.Sector) {
			t.Fatalf("%s: somebody is at %v, and %v are free of %s", name, w, free, diskText(d))
		}
	}
	victim := impl.Victim(d)
	if victim != -1 && (len(impl.MapLive(d.Map, victim)) == 0 || slices.Contains(d.Chain, victim) || slices.Contains(free, victim)) {
		t.Fatalf("%s: Victim is %d of %s", name, victim, diskText(d))
	}
	wantVictim(t, name, d, slowVictim(d))
}

// lookHolds holds all that is told of a disk against the model.
func lookHolds(t *testing.T, name string, d impl.Disk) {
	t.Helper()
	roomHolds(t, name, d)
	wantCheck(t, name, d, slowCheck(d))
	wantBytes(t, name, d, slowLiveBytes(d))
}

// placed has these places from the first address on; the others of seven are nowhere.
func placed(l ...impl.Place) impl.Disk {
	d := newDisk(7, 9)
	copy(d.Map.L, l)
	return d
}

func TestVictimByHand(t *testing.T) {
	d := newDisk(7, 9)
	wantVictim(t, "a new disk", d, -1)
	d.Chain, d.Open = []int{4, 2}, packOf(0, 0, has(1, 1))
	wantVictim(t, "somebody is open, nobody is at a sector", d, -1)
	d.Saved = mapOf(in(2, 0), in(3, 0), in(4, 0), in(5, 0), in(6, 0), in(7, 0), in(8, 0))
	wantVictim(t, "all are by Saved alone", d, -1)
	for sector := 2; sector < 9; sector++ {
		for addr := range 7 {
			d := newDisk(7, 9)
			d.Map.L[addr] = in(sector, addr)
			wantVictim(t, "one address", d, sector)
			d.Chain = []int{sector}
			wantVictim(t, "one address, its sector in Chain", d, -1)
		}
		d := newDisk(7, 9)
		d.Map = together(7, sector)
		wantVictim(t, "all at one", d, sector)
	}
	wantVictim(t, "three with one each", placed(in(6, 0), in(8, 3), in(4, 15)), 4)
	wantVictim(t, "three with one each, the first address first", placed(in(4, 1), in(6, 0), in(8, 3)), 4)
	wantVictim(t, "three with two each", placed(in(7, 0), in(5, 0), in(7, 1), in(8, 1), in(5, 1), in(8, 2)), 5)
	wantVictim(t, "three, one, two", placed(in(2, 0), in(2, 1), in(2, 2), in(4, 0), in(6, 0), in(6, 1)), 4)
	wantVictim(t, "three, two, one", placed(in(2, 0), in(2, 1), in(2, 2), in(4, 0), in(4, 1), in(6, 0)), 6)
	wantVictim(t, "one, two, three", placed(in(3, 0), in(5, 0), in(5, 1), in(8, 0), in(8, 1), in(8, 2)), 3)
	wantVictim(t, "three and four", placed(in(3, 0), in(5, 0), in(5, 1), in(3, 1), in(5, 3), in(3, 7), in(3, 2)), 5)
}

func TestVictimIsNotInChain(t *testing.T) {
	d := placed(in(2, 0), in(2, 1), in(2, 2), in(4, 0), in(4, 1), in(6, 0), in(8, 0))
	for _, row := range []struct {
		chain []int
		want  int
	}{
		{nil, 6}, {[]int{3, 5, 7}, 6}, {[]int{2, 4}, 6}, {[]int{8}, 6}, {[]int{6}, 8}, {[]int{8, 6}, 4},
		{[]int{6, 3, 8}, 4}, {[]int{4, 8, 6}, 2}, {[]int{8, 2, 6}, 4}, {[]int{6, 4, 2}, 8}, {[]int{2, 4, 6, 8}, -1}, {[]int{8, 7, 6, 5, 4, 3, 2}, -1},
	} {
		d.Chain = row.chain
		wantVictim(t, fmt.Sprint("Chain ", row.chain), d, row.want)
		roomHolds(t, fmt.Sprint("Chain ", row.chain), d)
	}
}

// What is open, what was saved, what the sectors have, and what waits for them: nothing of it counts.
func TestVictimIsByMapAlone(t *testing.T) {
	d := placed(in(2, 0), in(2, 1), in(2, 2), in(4, 0), in(4, 1), in(6, 0), in(6, 1))
	wantVictim(t, "two and two", d, 4)
	d.Open = packOf(0, 0, has(3, 1), has(4, 2))
	wantVictim(t, "each of its addresses is open", d, 4)
	d.Open = packOf(0, 0, has(5, 1))
	wantVictim(t, "one of the other's is open", d, 4)
	d.Open = packOf(0, 0, none(5), none(0), none(1))
	wantVictim(t, "some are trimmed", d, 4)
	d.Open = packOf(0, 0, has(0, 1), has(1, 1), has(2, 1), has(3, 1), has(4, 1), has(5, 1), none(6))
	wantVictim(t, "all are open", d, 4)
	d.Saved = mapOf(in(4, 0), in(4, 1), in(4, 2), in(4, 3), in(8, 0), in(3, 0), in(6, 0))
	wantVictim(t, "more and fewer are there by Saved", d, 4)
	for sector := range d.Raw.Sectors {
		d.Raw.Sectors[sector] = sectorOf(sector)
		d.Raw = waiting(d.Raw, sector, slowPackBytes(packOf(1, 1, has(1, 1))))
	}
	wantVictim(t, "whatever stands there and waits", d, 4)
	d.Epoch, d.Order = impl.MaxEpoch, impl.MaxEpoch
	wantVictim(t, "nothing is left", d, 4)
	d = newDisk(16, 24)
	for addr := range 16 {
		d.Map.L[addr] = in(23-addr, addr)
	}
	wantVictim(t, "sixteen sectors", d, 8)
	d.Chain = []int{8, 9, 10, 11, 12, 13, 14, 15, 16, 17, 18, 19, 20, 21, 22}
	wantVictim(t, "all of them but the last are in Chain", d, 23)
	d.Map = together(16, 23)
	wantVictim(t, "sixteen at the last", d, 23)
	d.Map.L[7] = in(2, 15)
	wantVictim(t, "one at the first", d, 2)
}

func TestLooksAtAnyDisk(t *testing.T) {
	victims, broken, used := map[bool]int{}, map[bool]int{}, map[bool]int{}
	for seed := range uint64(3000) {
		d := anyHeld(seed)
		name := fmt.Sprint("seed ", seed)
		lookHolds(t, name, d)
		victims[impl.Victim(d) < 0]++
		broken[impl.Check(d) < 0]++
		used[len(impl.Free(d)) == 0]++
	}
	for _, many := range []map[bool]int{victims, broken, used} {
		if many[false] < 150 || many[true] < 150 {
			t.Fatalf("victims %v, broken %v, used %v", victims, broken, used)
		}
	}
}

// stored is a disk of seven addresses over nine sectors whose map, saved, tells of these packs, written ahead of the epoch.
func stored(packs map[int][]impl.Item) impl.Disk {
	d := newDisk(7, 9)
	for sector, items := range packs {
		p := packOf(0, sector, items...)
		d.Raw.Sectors[sector] = slowPackBytes(p)
		d.Map, _ = slowApply(d.Map, sector, p)
	}
	d.Saved = mapOf(slices.Clone(d.Map.L)...)
	d.Raw.Sectors[1] = slowSuperBytes(1, d.Map)
	return d
}

// trio has the addresses 1, 4 and 6 at the sector 3, in another order, and these Items in Open.
func trio(open ...impl.Item) impl.Disk {
	d := stored(map[int][]impl.Item{3: {hasNoise(4, 4), has(6, 6), hasNoise(1, 1)}})
	d.Open = packOf(0, 0, open...)
	return d
}

// opens is the disk with these Items in Open in place of its own.
func opens(d impl.Disk, items ...impl.Item) impl.Disk {
	c := clonedDisk(d)
	c.Open = packOf(0, 0, items...)
	return c
}

// resealed is what is left where these Items are sealed, as seal does it, and others are open then.
func resealed(d impl.Disk, seal func(d impl.Disk, x impl.Item) impl.Disk, sealed []impl.Item, open ...impl.Item) impl.Disk {
	return opens(seal(opens(d, sealed...), open[0]), open...)
}

func TestCleanWithNoVictim(t *testing.T) {
	d := newDisk(7, 9)
	wantCleaned(t, "a new disk", d, d)
	d.Open = packOf(0, 0, has(3, 1), none(2))
	wantCleaned(t, "somebody is open", d, d)
	d.Raw = rawOf(9, alike(impl.MaxPending, 4)...)
	wantCleaned(t, "MaxPending wait", d, d)
	d.Saved = together(7, 5)
	wantCleaned(t, "all are by Saved alone", d, d)
	d.Epoch, d.Order = impl.MaxEpoch, impl.MaxEpoch
	wantCleaned(t, "nothing is left", d, d)
	d = trio(has(1, 9))
	d.Chain = []int{3}
	wantCleaned(t, "all are in Chain", d, d)
	d.Raw.Sectors[3] = sectorOf(3)
	wantCleaned(t, "all are in Chain, and broken", d, d)
	d.Chain = []int{2, 3, 4, 5, 6, 7, 8}
	d.Open = full().Open
	wantCleaned(t, "Open is full, nothing is free", d, d)
}

func TestCleanWithRoom(t *testing.T) {
	one, four, six := hasNoise(1, 1), hasNoise(4, 4), has(6, 6)
	d := trio()
	got := wantCleaned(t, "none is open: by their addresses, not by Index", d, opens(d, one, four, six))
	wantCleaned(t, "again: all of them are open", got, got)
	d = trio(has(0, 9), none(2))
	wantCleaned(t, "others are open", d, opens(d, has(0, 9), none(2), one, four, six))
	for name, row := range map[string]struct {
		open []impl.Item
		more []impl.Item
	}{
		"the first is open":         {[]impl.Item{has(1, 50)}, []impl.Item{four, six}},
		"the middle is open":        {[]impl.Item{has(4, 50)}, []impl.Item{one, six}},
		"the last is open":          {[]impl.Item{has(6, 50)}, []impl.Item{one, four}},
		"the first is trimmed":      {[]impl.Item{none(1)}, []impl.Item{four, six}},
		"the last is trimmed":       {[]impl.Item{none(6), has(0, 1)}, []impl.Item{one, four}},
		"two are open":              {[]impl.Item{has(6, 50), none(3), has(1, 51)}, []impl.Item{four}},
		"two are open, one trimmed": {[]impl.Item{none(4), has(6, 50)}, []impl.Item{one}},
		"all are open":              {[]impl.Item{has(6, 50), has(1, 51), hasNoise(4, 52)}, nil},
		"all are trimmed":           {[]impl.Item{none(4), none(1), none(6)}, nil},
		"all are open, as they are": {[]impl.Item{six, one, four}, nil},
	} {
		d := trio(row.open...)
		before, _ := impl.All(d)
		got := wantCleaned(t, name, d, opens(d, slices.Concat(row.open, row.more)...))
		wantAll(t, name, got, before)
		d.Epoch, d.Order, d.Chain = impl.MaxEpoch, impl.MaxEpoch, []int{2, 4, 5, 6, 7, 8}
		wantCleaned(t, name+", nothing is free, nothing is left", d, opens(d, slices.Concat(row.open, row.more)...))
		d.Raw.Pending = rawOf(9, alike(impl.MaxPending, 4)...).Pending
		wantCleaned(t, name+", MaxPending wait", d, opens(d, slices.Concat(row.open, row.more)...))
	}
}

// Of several sectors the victim alone is written anew, whatever else is there.
func TestCleanTakesTheVictimAlone(t *testing.T) {
	d := stored(map[int][]impl.Item{3: {has(0, 10), has(1, 11), has(2, 12)}, 5: {has(3, 13), has(4, 14)}, 7: {has(6, 16), has(5, 15)}})
	want := [][]byte{runBlock(10), runBlock(11), runBlock(12), runBlock(13), runBlock(14), runBlock(15), runBlock(16)}
	got := wantCleaned(t, "the first of two", d, opens(d, has(3, 13), has(4, 14)))
	wantAll(t, "the first of two", got, want)
	d.Chain = []int{5}
	got = wantCleaned(t, "the first is in Chain", d, opens(d, has(5, 15), has(6, 16)))
	wantAll(t, "the first is in Chain", got, want)
	d.Chain = []int{7, 5}
	got = wantCleaned(t, "both are in Chain", d, opens(d, has(0, 10), has(1, 11), has(2, 12)))
	wantAll(t, "both are in Chain", got, want)
	d.Chain = nil
	d.Map.L[6] = in(0, 0)
	d.Saved.L[6] = in(4, 2)
	got = wantCleaned(t, "the one with the fewest", d, opens(d, has(5, 15)))
	wantAll(t, "the one with the fewest", got, with(want, 6, noughts()))
	d.Raw = waiting(d.Raw, 7, slowPackBytes(packOf(0, 3, none(2), hasNoise(5, 70))))
	got = wantCleaned(t, "what waits counts", d, opens(d, hasNoise(5, 70)))
	wantAll(t, "what waits counts", got, with(with(want, 6, noughts()), 5, noise(70)))
	d.Raw.Sectors[3], d.Raw.Sectors[5] = sectorOf(3), sectorOf(5)
	wantCleaned(t, "others are broken", d, opens(d, hasNoise(5, 70)))
}

// What just fills the pack has room; with a byte more Open is sealed, and those behind it are put, too.
func TestCleanSealsOnTheWay(t *testing.T) {
	one, four, six := hasNoise(1, 1), hasNoise(4, 4), has(6, 6)
	before := []impl.Item{hasNoise(0, 10), hasSize(2, 43)}
	d := trio(before...)
	wantCleaned(t, "all just have room", d, opens(d, slices.Concat(before, []impl.Item{one, four, six})...))
	before[1] = hasSize(2, 44)
	d = trio(before...)
	wantCleaned(t, "the last has none", d, resealed(d, sealsAt(2), slices.Concat(before, []impl.Item{one, four}), six))
	before[1] = hasSize(2, 48)
	d = trio(before...)
	wantCleaned(t, "the middle has none", d, resealed(d, sealsAt(2), slices.Concat(before, []impl.Item{one}), four, six))
	before = []impl.Item{hasNoise(0, 10), hasNoise(2, 12), hasNoise(3, 13)}
	d = trio(before...)
	got := wantCleaned(t, "the first has none", d, resealed(d, sealsAt(2), before, one, four, six))
	wantAll(t, "the first has none", got, [][]byte{noise(10), noise(1), noise(12), noise(13), noise(4), noughts(), runBlock(6)})
	if got.Order != 1 || !slices.Equal(got.Chain, []int{2}) || got.Epoch != 1 || len(got.Raw.Pending) != 1 {
		t.Fatal(diskText(got))
	}
	d.Order, d.Chain = 7, []int{8, 2}
	wantCleaned(t, "behind others", d, resealed(d, sealsAt(4), before, one, four, six))
	for _, many := range []int{1, impl.MaxPending - 1, impl.MaxPending} {
		d := trio(before...)
		d.Raw.Pending = rawOf(9, alike(many, 4)...).Pending
		got := wantCleaned(t, fmt.Sprint(many, " wait"), d, resealed(d, sealsAt(2), before, one, four, six))
		if want := many%impl.MaxPending + 1; len(got.Raw.Pending) != want {
			t.Fatalf("%d wait, want %d, of %s", len(got.Raw.Pending), want, diskText(got))
		}
	}
}

// What is sealed on the way has an address of the victim: when its turn comes, it is there no more.
func TestCleanOfWhoIsThereNoMore(t *testing.T) {
	one, four, six := hasNoise(1, 1), hasNoise(4, 4), has(6, 6)
	for name, row := range map[string]struct {
		sealed []impl.Item
		open   []impl.Item
		blocks [][]byte
	}{
		"the middle": {
			[]impl.Item{hasNoise(0, 10), hasNoise(4, 54), hasNoise(3, 13)}, []impl.Item{one, six},
			[][]byte{noise(10), noise(1), noughts(), noise(13), noise(54), noughts(), runBlock(6)},
		},
		"the last": {
			[]impl.Item{hasNoise(6, 56), hasNoise(2, 12), hasNoise(3, 13)}, []impl.Item{one, four},
			[][]byte{noughts(), noise(1), noise(12), noise(13), noise(4), noughts(), noise(56)},
		},
		"both": {
			[]impl.Item{hasNoise(6, 56), hasNoise(4, 54), hasNoise(3, 13)}, []impl.Item{one},
			[][]byte{noughts(), noise(1), noughts(), noise(13), noise(54), noughts(), noise(56)},
		},
		"the middle, trimmed": {
			[]impl.Item{hasNoise(0, 10), none(4), hasNoise(3, 13), hasNoise(2, 12)}, []impl.Item{one, six},
			[][]byte{noise(10), noise(1), noise(12), noise(13), noughts(), noughts(), runBlock(6)},
		},
		"both, trimmed": {
			[]impl.Item{none(6), hasNoise(0, 10), none(4), hasNoise(3, 13), hasNoise(2, 12)}, []impl.Item{one},
			[][]byte{noise(10), noise(1), noise(12), noise(13), noughts(), noughts(), noughts()},
		},
		"the first was open: it is sealed ahead of its turn, or not at all": {
			[]impl.Item{hasNoise(1, 51), hasNoise(0, 10), hasNoise(3, 13)}, []impl.Item{four, six},
			[][]byte{noise(10), noise(51), noughts(), noise(13), noise(4), noughts(), runBlock(6)},
		},
	} {
		d := trio(row.sealed...)
		wantAll(t, name, d, row.blocks)
		got := wantCleaned(t, name, d, resealed(d, sealsAt(2), row.sealed, row.open...))
		wantAll(t, name+", cleaned", got, row.blocks)
		d.Chain = []int{2, 4, 5, 6, 7, 8}
		got = wantCleaned(t, name+", saved", d, resealed(d, savesAndSealsAt(2), row.sealed, row.open...))
		wantAll(t, name+", saved", got, row.blocks)
		spoilt := clonedDisk(d)
		for _, x := range row.sealed {
			if at := slices.Index([]int{4, 6, 1}, x.Addr); at >= 0 {
				items := []impl.Item{four, six, one}
				items[at] = none(x.Addr)
				spoilt.Raw.Sectors[3] = slowPackBytes(packOf(0, 3, items...))
				wantCleaned(t, name+", its place is broken", spoilt, resealed(spoilt, savesAndSealsAt(2), row.sealed, row.open...))
			}
		}
	}
}

// lone has at the sector 3 the address 1 alone, and no room for it in Open: it is sealed on the way.
func lone() impl.Disk {
	d := stored(map[int][]impl.Item{3: {hasNoise(1, 1)}})
	d.Open = packOf(0, 0, hasNoise(0, 10), hasNoise(2, 12), hasNoise(5, 15))
	return d
}

// wantLone cleans a disk made of lone: what was open is sealed, as seal does it.
func wantLone(t *testing.T, name string, d impl.Disk, seal func(d impl.Disk, x impl.Item) impl.Disk) {
	t.Helper()
	wantCleaned(t, name, d, seal(d, hasNoise(1, 1)))
}

func TestCleanKeepsNothingBack(t *testing.T) {
	d := lone()
	wantLone(t, "all are free", d, sealsAt(2))
	d.Chain = []int{5, 6, 7, 8}
	wantLone(t, "two are free", d, sealsAt(2))
	d.Chain = []int{8, 2, 6, 5}
	wantLone(t, "two others are free", d, sealsAt(4))
	d.Chain = []int{5, 6, 2, 7, 8}
	wantLone(t, "one is free", d, sealsAt(4))
	d.Chain = []int{5, 6, 2, 7, 4}
	wantLone(t, "the last is free", d, sealsAt(8))
	d.Chain = []int{5, 6, 4, 2, 7, 8}
	wantLone(t, "none is free: it is saved first", d, savesAndSealsAt(2))
	d.Chain, d.Saved = nil, mapOf(in(2, 0), in(4, 0), in(5, 0), in(6, 0), in(7, 0), in(0, 0), in(0, 0))
	wantLone(t, "one is free by Saved", d, sealsAt(8))
	d.Saved.L[6] = in(8, 3)
	wantLone(t, "none is free by Saved", d, savesAndSealsAt(2))
	d = lone()
	d.Map, d.Chain = mapOf(in(2, 0), in(3, 0), in(4, 0), in(5, 0), in(6, 0), in(7, 0), in(0, 0)), []int{2, 4, 5, 6, 7}
	wantLone(t, "one is free by Map", d, sealsAt(8))
	d.Chain = []int{2, 4, 5, 6, 7, 8}
	wantLone(t, "none is free, one behind the save", d, savesAndSealsAt(8))
	got, _ := impl.Clean(d)
	wantFree(t, "one is free, one behind the save", got)
	d.Map.L[6] = in(8, 0)
	wantNotCleaned(t, "none is free behind the save", d, impl.DkSpace)
	d.Saved = together(7, 3)
	wantNotCleaned(t, "none is free behind the save, whatever Saved tells", d, impl.DkSpace)
	d.Open = packOf(0, 0, hasNoise(0, 10), hasNoise(2, 12), hasSize(5, 47))
	wantCleaned(t, "there is just room in Open", d, opens(d, hasNoise(0, 10), hasNoise(2, 12), hasSize(5, 47), hasNoise(1, 1)))
	d.Open = packOf(0, 0, hasNoise(0, 10), hasNoise(2, 12), hasSize(5, 48))
	wantNotCleaned(t, "a byte too many", d, impl.DkSpace)
}

func TestCleanAtTheLastEpochs(t *testing.T) {
	for _, epoch := range []int{0, 1, 2, 255, impl.MaxEpoch - 2, impl.MaxEpoch - 1} {
		d := lone()
		d.Epoch = epoch
		wantLone(t, fmt.Sprint("epoch ", epoch), d, sealsAt(2))
		d.Order = impl.MaxEpoch
		wantLone(t, fmt.Sprint("no Order is left, epoch ", epoch), d, savesAndSealsAt(2))
		d.Order, d.Chain = 5, []int{2, 4, 5, 6, 7, 8}
		wantLone(t, fmt.Sprint("none is free, epoch ", epoch), d, savesAndSealsAt(2))
		d.Order = impl.MaxEpoch
		wantLone(t, fmt.Sprint("neither is left, epoch ", epoch), d, savesAndSealsAt(2))
		d.Map = mapOf(in(2, 0), in(3, 0), in(4, 0), in(5, 0), in(6, 0), in(7, 0), in(8, 0))
		wantNotCleaned(t, fmt.Sprint("none is free behind the save, epoch ", epoch), d, impl.DkSpace)
	}
	d := lone()
	d.Epoch = impl.MaxEpoch
	wantLone(t, "no epoch is left, many are free", d, sealsAt(2))
	d.Chain = []int{2, 4, 5, 7, 8}
	wantLone(t, "no epoch is left, one is free", d, sealsAt(6))
	d.Chain = []int{2, 4, 5, 6, 7, 8}
	wantNotCleaned(t, "no epoch is left, none is free", d, impl.DkSpace)
	d.Chain, d.Saved = nil, mapOf(in(2, 0), in(4, 0), in(5, 0), in(6, 0), in(7, 0), in(8, 0), in(0, 0))
	wantNotCleaned(t, "no epoch is left, none is free by Saved", d, impl.DkSpace)
	d = lone()
	d.Epoch, d.Order = impl.MaxEpoch, impl.MaxEpoch
	wantNotCleaned(t, "no epoch is left, no Order is left", d, impl.DkSpace)
	d.Order = impl.MaxEpoch - 1
	wantLone(t, "the last of all", d, sealsAt(2))
	for _, order := range []int{0, 1, 255, impl.MaxEpoch - 2, impl.MaxEpoch - 1} {
		d := lone()
		d.Order = order
		wantLone(t, fmt.Sprint("Order ", order), d, sealsAt(2))
	}
}

// lettersBlob has a block as letters alone, by the mode MdFse: where Find finds pieces that don't pay, it is shorter than what Encode makes.
func lettersBlob(block []byte) []byte {
	return sealedBlob(impl.MdFse, partsBy(impl.MdFse, []impl.Seq{{Lits: block}})...)
}

// unlikeEncode is a block of few letters, and a blob of it that has room behind three of noise, where what Encode makes has none.
func unlikeEncode(t *testing.T) ([]byte, []byte) {
	t.Helper()
	for seed := range uint64(500) {
		block := bytesOf(picked(impl.BlockBytes, 15, seed), 'p')
		short := lettersBlob(block)
		blob, _ := slowEncode(block)
		again, ok := slowDecode(short)
		if ok && bytes.Equal(again, block) && len(short) <= 47 && len(blob) > 47 {
			return block, short
		}
	}
	t.Fatal("no such block")
	return nil, nil
}

// As by Write: the Blob is what Encode makes of the block, whatever stood there.
func TestCleanEncodesAnew(t *testing.T) {
	raw := impl.Item{Addr: 1, Blob: slices.Concat([]byte{impl.MdRaw}, runBlock(9))}
	d := stored(map[int][]impl.Item{3: {raw, hasNoise(4, 4)}})
	got := wantCleaned(t, "a blob that was longer", d, opens(d, has(1, 9), hasNoise(4, 4)))
	wantBlockAt(t, "a blob that was longer", got, 1, runBlock(9))
	block, short := unlikeEncode(t)
	blob, _ := slowEncode(block)
	d = stored(map[int][]impl.Item{3: {{Addr: 1, Blob: short}}})
	got = wantCleaned(t, "a blob that was shorter", d, opens(d, impl.Item{Addr: 1, Blob: blob}))
	wantBlockAt(t, "a blob that was shorter", got, 1, block)
}

// The victim's pack would be too long, if it were made anew, and Open is full: it is sealed twice on the way.
func TestCleanSealsTwice(t *testing.T) {
	block, short := unlikeEncode(t)
	blob, _ := slowEncode(block)
	first := []impl.Item{hasNoise(3, 13), hasNoise(4, 14), hasNoise(5, 15)}
	second := []impl.Item{hasNoise(0, 10), hasNoise(1, 11), hasNoise(2, 12)}
	d := stored(map[int][]impl.Item{3: append(slices.Clone(second), impl.Item{Addr: 6, Blob: short})})
	d.Open = packOf(0, 0, first...)
	before := [][]byte{noise(10), noise(11), noise(12), noise(13), noise(14), noise(15), block}
	hold := func(name string, one func(d impl.Disk, x impl.Item) impl.Disk, other func(d impl.Disk, x impl.Item) impl.Disk) {
		t.Helper()
		got := wantCleaned(t, name, d, resealed(one(d, second[0]), other, second, impl.Item{Addr: 6, Blob: blob}))
		wantAll(t, name, got, before)
	}
	hold("all are free", sealsAt(2), sealsAt(4))
	d.Chain = []int{2, 5, 6, 8}
	hold("two are free", sealsAt(4), sealsAt(7))
	d.Chain = []int{2, 4, 5, 6, 8}
	hold("one is free", sealsAt(7), savesAndSealsAt(2))
	d.Epoch = impl.MaxEpoch - 1
	hold("one is free, one epoch is left", sealsAt(7), savesAndSealsAt(2))
	d.Epoch = impl.MaxEpoch
	wantNotCleaned(t, "one is free, no epoch is left: what was sealed is undone", d, impl.DkSpace)
	d.Epoch, d.Chain = impl.MaxEpoch-1, []int{2, 4, 5, 6, 7, 8}
	hold("none is free, one epoch is left", savesAndSealsAt(2), sealsAt(4))
	d.Chain, d.Order = nil, impl.MaxEpoch-1
	hold("one Order is left, one epoch is", sealsAt(2), savesAndSealsAt(4))
	d.Order = impl.MaxEpoch
	hold("no Order is left, one epoch is", savesAndSealsAt(2), sealsAt(4))
	d.Epoch, d.Order = impl.MaxEpoch, impl.MaxEpoch-2
	hold("two Orders are left, no epoch is", sealsAt(2), sealsAt(4))
	d.Order = impl.MaxEpoch - 1
	wantNotCleaned(t, "one Order is left, no epoch is: what was sealed is undone", d, impl.DkSpace)
}

// The addresses 0, 1 and 4 of packed are the victim's: the first that is broken ends it, wherever it is.
func TestCleanOfBrokenAddresses(t *testing.T) {
	for name, row := range spoiltSectors() {
		stands := packed(has(1, 11), has(4, 14), has(0, 10))
		waits := clonedDisk(stands)
		stands.Raw.Sectors[3] = row.sector
		waits.Raw = waiting(waits.Raw, 3, row.sector)
		for _, d := range []impl.Disk{stands, waits} {
			wantNotCleaned(t, name, d, impl.DkCorrupt)
			d.Epoch, d.Order, d.Chain = impl.MaxEpoch, impl.MaxEpoch, []int{2, 4, 5, 6, 7}
			wantNotCleaned(t, name+", nothing is left", d, impl.DkCorrupt)
			for _, addr := range row.broken {
				d.Open.Items = append(d.Open.Items, has(addr, 50+addr))
			}
			open := slices.Clone(d.Open.Items)
			for addr, x := range map[int]impl.Item{0: has(0, 10), 1: has(1, 11), 4: has(4, 14)} {
				if !slices.Contains(row.broken, addr) {
					open = append(open, x)
				}
			}
			slices.SortFunc(open[len(row.broken):], func(a impl.Item, b impl.Item) int { return a.Addr - b.Addr })
			wantCleaned(t, name+", all of them open", d, opens(d, open...))
			d.Open.Items = d.Open.Items[1:]
			wantNotCleaned(t, name+", all of them open but one", d, impl.DkCorrupt)
		}
	}
}

// One of three is broken, while the others were put ahead of it, sealed, and saved: all of that is undone.
func TestCleanUndoesWhatWasAheadOfABrokenOne(t *testing.T) {
	items := []impl.Item{hasNoise(4, 4), has(6, 6), hasNoise(1, 1)}
	opens := map[string][]impl.Item{
		"room for all":           nil,
		"sealed for the first":   {hasNoise(0, 10), hasNoise(2, 12), hasNoise(3, 13)},
		"sealed for the middle":  {hasNoise(0, 10), hasNoise(2, 12)},
		"sealed for the last":    {hasNoise(0, 10), hasSize(2, 44)},
		"others are open, few":   {has(0, 10), none(5)},
		"the first is trimmed":   {none(1)},
		"two of them are open":   {has(1, 50), has(6, 51)},
		"sealed, another's turn": {hasNoise(4, 54), hasNoise(2, 12), hasNoise(3, 13)},
	}
	for name, open := range opens {
		for at, x := range items {
			spoilt := slices.Clone(items)
			spoilt[at] = none(x.Addr)
			d := trio(open...)
			d.Raw.Sectors[3] = slowPackBytes(packOf(0, 3, spoilt...))
			want := impl.DkCorrupt
			if isOpen(d, x.Addr) {
				want = impl.DkWell
			}
			for _, chain := range [][]int{nil, {2, 4, 5, 6, 7}, {2, 4, 5, 6, 7, 8}} {
				d.Chain = chain
				note := fmt.Sprint(name, ", ", x.Addr, " is broken, Chain ", chain)
				if got, code := cleanHolds(t, note, d); code != want || want == impl.DkCorrupt && !sameDisk(got, d) {
					t.Fatalf("%s: code %d, %s", note, code, diskText(got))
				}
			}
		}
	}
}

// Who can't be put for want of room ends it ahead of a later one that is broken; of one address it counts first that it is broken.
func TestCleanEndsAtTheFirstThatFails(t *testing.T) {
	d := trio(hasNoise(0, 10), hasNoise(2, 12), hasNoise(3, 13))
	d.Epoch, d.Chain = impl.MaxEpoch, []int{2, 4, 5, 6, 7, 8}
	wantNotCleaned(t, "none is broken", d, impl.DkSpace)
	d.Raw.Sectors[3] = slowPackBytes(packOf(0, 3, none(4), has(6, 6), hasNoise(1, 1)))
	wantNotCleaned(t, "the middle is broken, the first has no room", d, impl.DkSpace)
	d.Raw.Sectors[3] = slowPackBytes(packOf(0, 3, none(4), has(6, 6), none(1)))
	wantNotCleaned(t, "the first is broken, and has no room", d, impl.DkCorrupt)
	d.Open = packOf(0, 0, hasNoise(0, 10), hasNoise(2, 12), none(1))
	d.Raw.Sectors[3] = slowPackBytes(packOf(0, 3, hasNoise(4, 4), none(6), none(1)))
	wantNotCleaned(t, "the last is broken, the middle has room", d, impl.DkCorrupt)
	d.Open = packOf(0, 0, hasNoise(0, 10), hasNoise(2, 12), hasSize(3, 48), none(1))
	wantNotCleaned(t, "the last is broken, the middle has none", d, impl.DkSpace)
}

// crowdedHeld has many blobs of noise at few sectors, which its map tells of, a few of them spoilt.
func crowdedHeld(seed uint64) impl.Disk {
	d := anyDisk(seed)
	n, raws := len(d.Map.L), len(d.Raw.Sectors)
	d.Map = nowhere(n)
	numbers, kinds := picked(n, 2, seed+9000), picked(raws, 30, seed+9100)
	addr := 0
	for sector := 2 + int(seed)%3; sector < raws && addr < n; sector++ {
		p := packOf(0, sector)
		for range 1 + numbers[addr] {
			if addr < n {
				p.Items = append(p.Items, hasNoise(addr, int(seed)+addr))
				addr++
			}
		}
		d.Map, _ = slowApply(d.Map, sector, p)
		if kinds[sector] == 0 {
			p.Items[len(p.Items)-1].Blob = nil
		}
		d.Raw.Pending = slices.DeleteFunc(d.Raw.Pending, func(one impl.Pend) bool { return one.At == sector })
		d.Raw.Sectors[sector] = slowPackBytes(p)
	}
	return d
}

// tightHeld has no free sector, and Open is crowded with others than the victim's, as far as there are such.
func tightHeld(seed uint64) impl.Disk {
	d := crowdedHeld(seed)
	d.Chain, d.Open = nil, impl.Pack{}
	for sector := 2; sector < len(d.Raw.Sectors); sector++ {
		if len(slowLive(d.Map, sector)) == 0 {
			d.Chain = append(d.Chain, sector)
		}
	}
	living := slowLive(d.Map, slowVictim(d))
	return crowdedOpen(d, living[len(living)-1]+1)
}

// actTold is what was done, by what differs.
func actTold(d impl.Disk, got impl.Disk, code int) string {
	switch {
	case code != impl.DkWell:
		return fmt.Sprint("code ", code)
	case sameDisk(got, d):
		return "as it was"
	case got.Epoch != d.Epoch:
		return "saved"
	case got.Order != d.Order:
		return "sealed"
	}
	return "changed"
}

func TestCleanOfAnyDisk(t *testing.T) {
	acts := map[string]int{}
	for seed := range uint64(5000) {
		d := anyHeld(seed)
		switch seed % 5 {
		case 1, 2:
			d = crowdedOpen(crowdedHeld(seed), int(seed))
		case 3, 4:
			d = tightHeld(seed)
		}
		name := fmt.Sprint("seed ", seed)
		got, code := cleanHolds(t, name, d)
		lookHolds(t, name, got)
		acts[actTold(d, got, code)]++
	}
	for _, act := range []string{"as it was", "changed", "sealed", "saved", "code 3", "code 4"} {
		if acts[act] < 100 {
			t.Fatalf("acts %v", acts)
		}
	}
}

func TestCheckByHand(t *testing.T) {
	wantCheck(t, "a new disk", newDisk(7, 9), -1)
	for _, n := range []int{1, 2, 3, 9, impl.MaxAddr} {
		d := newDisk(n, 24)
		for addr := range n {
			d.Map.L[addr] = in(2+addr, 0)
			d.Raw.Sectors[2+addr] = slowPackBytes(packOf(1, 1+addr, hasNoise(addr, addr)))
		}
		wantCheck(t, "none is broken", d, -1)
		for addr := range n {
			spoilt := clonedDisk(d)
			spoilt.Raw.Sectors[2+addr][0]++
			wantCheck(t, fmt.Sprint(addr, " of ", n), spoilt, addr)
			for other := range n {
				two := clonedDisk(spoilt)
				two.Raw.Sectors[2+other] = make([]byte, impl.RawBytes)
				wantCheck(t, fmt.Sprint(addr, " and ", other, " of ", n), two, min(addr, other))
				two.Open = packOf(0, 0, hasNoise(min(addr, other), 1))
				if want := max(addr, other); addr != other {
					wantCheck(t, "the first of two is open", two, want)
				} else {
					wantCheck(t, "the broken one is open", two, -1)
				}
			}
			spoilt.Open = packOf(0, 0, none(addr))
			wantCheck(t, fmt.Sprint(addr, " of ", n, ", trimmed"), spoilt, -1)
			spoilt.Open = impl.Pack{}
			spoilt.Raw = waiting(spoilt.Raw, 2+addr, d.Raw.Sectors[2+addr])
			wantCheck(t, "what waits is right", spoilt, -1)
			spoilt.Map.L[addr] = in(0, 0)
			wantCheck(t, "it is nowhere", spoilt, -1)
		}
	}
}

func TestCheckOfBrokenAddresses(t *testing.T) {
	for name, row := range spoiltSectors() {
		stands := packed(has(1, 11), has(4, 14), has(0, 10))
		waits := clonedDisk(stands)
		stands.Raw.Sectors[3] = row.sector
		waits.Raw = waiting(waits.Raw, 3, row.sector)
		for _, d := range []impl.Disk{stands, waits} {
			for i, addr := range row.broken {
				wantCheck(t, name, d, addr)
				wantNotRead(t, name, d, addr, impl.DkCorrupt)
				d.Open.Items = append(d.Open.Items, []impl.Item{has(addr, 50), none(addr), hasNoise(addr, 9)}[i])
			}
			wantCheck(t, name+", all of them open", d, -1)
			d.Open = impl.Pack{}
			d.Map.L = nowhere(5).L
			d.Saved = packed().Map
			wantCheck(t, name+", by Saved alone", d, -1)
		}
	}
}

func TestLiveBytesByHand(t *testing.T) {
	for _, s := range []shape{{1, 6}, {3, 6}, {16, 11}, {16, 24}} {
		wantBytes(t, "a new disk", newDisk(s.n, s.raws), 0)
	}
	d := opened(has(2, 1), hasNoise(4, 2), none(5), hasSize(0, 33))
	wantBytes(t, "open", d, 2+65+33)
	d = opened(none(5), none(0))
	wantBytes(t, "open with empty Blobs", d, 0)
	d = trio()
	wantBytes(t, "at their places", d, 65+2+65)
	d.Open = packOf(0, 0, hasSize(0, 11), none(2))
	wantBytes(t, "at their places, others open", d, 65+2+65+11)
	d.Open = packOf(0, 0, hasSize(1, 11))
	wantBytes(t, "open, and at its place", d, 65+2+11)
	d.Open = packOf(0, 0, none(4), none(6))
	wantBytes(t, "trimmed, and at their places", d, 65)
	d.Open = impl.Pack{}
	d.Map.L[1], d.Saved = in(0, 0), together(7, 5)
	wantBytes(t, "an Item of one that is nowhere", d, 65+2)
	d.Map.L[4] = in(3, 9)
	wantBytes(t, "a broken one", d, 2)
	d.Raw.Sectors[3][0] = 'Q'
	wantBytes(t, "all are broken", d, 0)
	d.Open = packOf(0, 0, hasSize(6, 25))
	wantBytes(t, "all are broken, one is open", d, 25)
	d.Raw = waiting(d.Raw, 3, slowPackBytes(packOf(0, 3, hasNoise(4, 4), has(6, 6), hasNoise(1, 1))))
	d.Map.L[4] = in(3, 0)
	wantBytes(t, "what waits", d, 65+25)
	d = newDisk(16, 24)
	for addr := range 16 {
		d.Map.L[addr] = in(8+addr, 0)
		d.Raw.Sectors[8+addr] = slowPackBytes(packOf(0, 1, hasNoise(addr, addr)))
	}
	wantBytes(t, "as many as there may be", d, 16*65)
}

func TestLiveBytesOfBrokenAddresses(t *testing.T) {
	for name, row := range spoiltSectors() {
		d := packed(has(1, 11), has(4, 14), has(0, 10))
		wantBytes(t, "none is broken", d, 6)
		d.Raw.Sectors[3] = row.sector
		wantBytes(t, name, d, 6-2*len(row.broken))
	}
}

func TestUsedSectorsByHand(t *testing.T) {
	for _, s := range shapes() {
		d := newDisk(s.n, s.raws)
		wantUsed(t, "a new disk", d, 0)
		for sector := 2; sector < s.raws; sector++ {
			d.Chain = append(d.Chain, sector)
			wantUsed(t, "Chain alone", d, sector-1)
		}
		for sector := 2; sector < s.raws; sector++ {
			d := newDisk(s.n, s.raws)
			d.Map = together(s.n, sector)
			wantUsed(t, "Map alone", d, 1)
			d.Saved = together(s.n, sector)
			wantUsed(t, "Map and Saved, the same", d, 1)
			d.Map = nowhere(s.n)
			wantUsed(t, "Saved alone", d, 1)
			d.Chain = []int{sector}
			wantUsed(t, "Saved and Chain, the same", d, 1)
			d.Map.L[0] = in(2, 0)
			d.Chain = []int{s.raws - 1}
			wantUsed(t, "Map, Saved and Chain", d, len(slices.Compact(slices.Sorted(slices.Values([]int{2, sector, s.raws - 1})))))
		}
	}
	d := opened(has(2, 1), hasNoise(4, 2), none(5))
	wantUsed(t, "what is open is at no sector", d, 0)
	d.Raw = rawOf(9, 2, 3, 4)
	wantUsed(t, "what stands there and waits does not count", d, 0)
	d = plainDisk()
	wantUsed(t, "plain", d, 4)
	wantFree(t, "plain", d, 5, 7)
}

func TestRoomRefuses(t *testing.T) {
	for name, d := range wrongDisks() {
		wantVictim(t, name, d, -1)
		wantCheck(t, name, d, -2)
		wantBytes(t, name, d, 0)
		wantUsed(t, name, d, 0)
		got, code := impl.Clean(d)
		wantNoDisk(t, name+": Clean", got, code, impl.DkForm)
	}
	for _, n := range []int{math.MinInt, -1, impl.MaxEpoch + 1, math.MaxInt} {
		for at, change := range []func(d *impl.Disk){
			func(d *impl.Disk) { d.Epoch = n },
			func(d *impl.Disk) { d.Order = n },
			func(d *impl.Disk) { d.Chain = []int{n} },
			func(d *impl.Disk) { d.Open.Order = n },
			func(d *impl.Disk) { d.Map.L[6].Index = n },
		} {
			for _, spoil := range []bool{false, true} {
				d := trio(has(0, 1))
				wantVictim(t, "right", d, 3)
				change(&d)
				if spoil {
					d.Raw.Sectors[3] = sectorOf(3)
				}
				name := fmt.Sprint("number ", n, ", change ", at, ": no disk, though there is a victim")
				wantVictim(t, name, d, -1)
				wantCheck(t, name, d, -2)
				wantBytes(t, name, d, 0)
				wantUsed(t, name, d, 0)
				got, code := impl.Clean(d)
				wantNoDisk(t, name, got, code, impl.DkForm)
			}
		}
	}
}

// What was cleaned is free behind a save, and all is read as it was.
func TestWhatIsCleanedIsFree(t *testing.T) {
	d := stored(map[int][]impl.Item{3: {has(0, 10), has(1, 11), has(2, 12)}, 5: {has(3, 13)}, 7: {has(6, 16), has(5, 15)}})
	want := [][]byte{runBlock(10), runBlock(11), runBlock(12), runBlock(13), noughts(), runBlock(15), runBlock(16)}
	for _, row := range []struct {
		victim int
		used   int
	}{{5, 3}, {2, 3}, {4, 3}} {
		wantVictim(t, "next", d, row.victim)
		wantUsed(t, "next", d, row.used)
		cleaned, code := cleanHolds(t, "next", d)
		if code != impl.DkWell {
			t.Fatalf("Clean tells %d of %s", code, diskText(d))
		}
		wantAll(t, "cleaned", cleaned, want)
		wantUsed(t, "cleaned, what was saved is there still", cleaned, row.used)
		saved, code := saveHolds(t, "cleaned", cleaned)
		if code != impl.DkWell || !slices.Contains(impl.Free(saved), row.victim) {
			t.Fatalf("code %d, %v are free of %s", code, impl.Free(saved), diskText(saved))
		}
		soundHolds(t, "cleaned and saved", saved, want)
		d = saved
	}
	got, code := cleanHolds(t, "twice", d)
	again, twice := cleanHolds(t, "twice", got)
	if code != impl.DkWell || twice != impl.DkWell || !sameDisk(again, got) {
		t.Fatalf("codes %d and %d, %s", code, twice, diskText(again))
	}
	for range 3 {
		got, _ = cleanHolds(t, "until one is left", d)
		d, _ = saveHolds(t, "until one is left", got)
	}
	wantAll(t, "until one is left", d, want)
}

// drawnItems are those of a pack, some of them with an empty Blob.
func drawnItems(n int, most int, seed uint64) []impl.Item {
	p := impl.Pack{}
	pick := picked(1+2*most, 9999, seed)
	for i := range pick[0] % (most + 1) {
		addr, kind := pick[1+2*i]%n, pick[2+2*i]
		x := []impl.Item{none(addr), has(addr, kind), hasSize(addr, 43+kind%6), hasNoise(addr, kind), hasNoise(addr, kind+1)}[kind%5]
		if more, ok := slowAdd(p, x); ok {
			p = more
		}
	}
	return p.Items
}

// drawnPack is put at one of these sectors, there at once, or waiting.
func drawnPack(d impl.Disk, p impl.Pack, sectors []int, seed int, waits bool) (impl.Disk, int) {
	at := sectors[seed%len(sectors)]
	if waits {
		d.Raw = waiting(d.Raw, at, slowPackBytes(p))
	} else {
		d.Raw = slowSettled(d.Raw)
		d.Raw.Sectors[at] = slowPackBytes(p)
	}
	d.Map, _ = slowApply(d.Map, at, p)
	return d, at
}

// drawn is a disk with packs of old epochs, some of which nobody needs, and of this one, in any sectors, the last of them waiting: no acts made it, yet it is mostly sound. Every second one has little room in Open for the victim's.
func drawn(seed uint64) impl.Disk {
	all := shapes()
	if seed%3 > 0 {
		all = all[:45]
	}
	pick := picked(40, 9999, seed+40000)
	s := all[pick[0]%len(all)]
	d := newDisk(s.n, s.raws)
	d.Epoch = []int{1, 2, 7, 256, impl.MaxEpoch - 2, impl.MaxEpoch - 1}[pick[1]%6]
	for i := range pick[2] % 15 {
		if free := slowFree(d); len(free) > 0 {
			d, _ = drawnPack(d, packOf(pick[4+i]%d.Epoch, pick[5+i], drawnItems(s.n, 4, 50*seed+uint64(i))...), free, pick[6+i], false)
		}
	}
	d.Saved = mapOf(slices.Clone(d.Map.L)...)
	d.Raw.Sectors[d.Epoch%2], d.Raw.Sectors[1-d.Epoch%2] = slowSuperBytes(d.Epoch, d.Saved), slowSuperBytes(d.Epoch-1, together(s.n, 3))
	lost := pick[3] % 4
	for i := range pick[3] % []int{2, s.raws - 3}[pick[1]%2] {
		if free := slowFree(d); len(free) > 0 {
			at := 0
			d.Order++
			d, at = drawnPack(d, packOf(d.Epoch, d.Order, drawnItems(s.n, 4, 50*seed+20+uint64(i))...), free, pick[20+i%19], i >= lost)
			d.Chain = append(d.Chain, at)
		}
	}
	d.Open = packOf(0, 0, drawnItems(s.n, 7, 50*seed+45)...)
	if living := slowLive(d.Map, slowVictim(d)); seed%2 > 0 && len(living) > 0 {
		return crowdedOpen(opens(d), living[len(living)-1]+1)
	}
	return d
}

func isSound(d impl.Disk) bool {
	if slowCheck(d) >= 0 || unsound(d) != "" {
		return false
	}
	r, code := slowUnmount(d)
	if code != impl.DkWell {
		return false
	}
	again, code := slowMount(r)
	if code != impl.DkWell {
		return false
	}
	for addr := range d.Map.L {
		was, _ := slowReadOf(d, addr)
		is, code := slowReadOf(again, addr)
		if code != impl.DkWell || !bytes.Equal(was, is) {
			return false
		}
	}
	return true
}

// changesNothing does one of Flush, Save and Clean after the other, as long as the disk is sound: each leaves a disk, and each address what is read of it. Who can be unmounted and mounted again can be flushed and saved.
func changesNothing(t *testing.T, name string, d impl.Disk, turns []int, told map[string]int) {
	t.Helper()
	want, ok := impl.All(d)
	if !ok {
		t.Fatalf("%s: All refuses %s", name, diskText(d))
	}
	for i, turn := range turns {
		act := []string{"flush", "save", "clean"}[turn]
		note := fmt.Sprint(name, ", ", act, " ", i)
		got, code := []func(t *testing.T, name string, d impl.Disk) (impl.Disk, int){flushHolds, saveHolds, cleanHolds}[turn](t, note, d)
		if !impl.DiskOk(got) || code != impl.DkWell && (act != "clean" || code != impl.DkSpace) {
			t.Fatalf("%s: code %d, %s", note, code, diskText(got))
		}
		wantAll(t, note, got, want)
		lookHolds(t, note, got)
		told[act+": "+actTold(d, got, code)]++
		if !isSound(got) {
			told["not sound"]++
			return
		}
		d = got
	}
}

// Promise 11: to flush, to save and to clean a sound disk changes nothing of what is read.
func TestSoundDisksAreReadAsTheyWere(t *testing.T) {
	told := map[string]int{}
	for seed := range uint64(600) {
		d := drawn(seed)
		if !impl.DiskOk(d) {
			t.Fatalf("seed %d: %s", seed, diskText(d))
		}
		if !isSound(d) {
			told["none"]++
			continue
		}
		for first := range 3 {
			turns := append([]int{first}, picked(5, 2, seed+uint64(first))...)
			changesNothing(t, fmt.Sprint("seed ", seed), d, turns, told)
		}
	}
	for _, act := range []string{"clean: changed", "clean: sealed", "clean: saved", "clean: as it was", "flush: as it was", "flush: sealed", "flush: saved", "save: saved", "none", "not sound"} {
		if told[act] < 12 {
			t.Fatalf("told %v", told)
		}
	}
}

// clean is a step of a life: what may be there behind a crash stays as it was.
func (l *life) clean(t *testing.T, name string) int {
	t.Helper()
	d, code := cleanHolds(t, name, l.disk)
	if code != impl.DkWell {
		wantAsItWas(t, name, l.disk, d, code, impl.DkSpace)
	}
	l.disk = d
	if canFlush(d) {
		soundHolds(t, name, d, l.now)
	} else {
		soundBut(t, name, d, l.now)
	}
	lookHolds(t, name, d)
	return code
}

// liveCleaned goes through many steps, of which some clean, without crashes but those beside; it tells how often each code was told by Clean.
func liveCleaned(t *testing.T, s shape, rare int, seed uint64, codes map[int]int) {
	t.Helper()
	const steps = 150
	l := newLife(s)
	kinds, addrs := picked(steps, rare, seed+600), picked(steps, s.n-1, seed+601)
	for i, kind := range kinds {
		name := fmt.Sprint("shape ", s, ", seed ", seed, ", step ", i)
		block := noise(i + 1000*int(seed))
		if i%4 == 0 {
			block = someBlocks()[(i+int(seed))%60]
		}
		if kind < 3 {
			codes[l.clean(t, name)]++
		} else {
			l.step(t, name, kind-3, addrs[i], block)
		}
		if i%7 == 0 {
			l.crashes(t, name, i+int(seed))
		}
		if i%40 == 39 && !canFlush(l.disk) {
			l = newLife(s)
		}
	}
}

// Promise 11: without crashes, whatever is written, trimmed, flushed, saved and cleaned, what is read is what was written last.
func TestCleaningInManySteps(t *testing.T) {
	codes := map[int]int{}
	for i, s := range []shape{{1, 6}, {3, 6}, {6, 7}, {7, 9}, {9, 8}, {15, 10}, {16, 11}, {16, 13}, {16, 24}} {
		for j, rare := range []int{8, 14, 40} {
			liveCleaned(t, s, rare, uint64(3*i+j), codes)
		}
	}
	if codes[impl.DkWell] < 500 {
		t.Fatalf("codes %v", codes)
	}
}

// roomDoes has what each function tells of a disk, as a disk.
func roomDoes() map[string]func(d impl.Disk) impl.Disk {
	return map[string]func(d impl.Disk) impl.Disk{
		"Clean":       func(d impl.Disk) impl.Disk { return coded(impl.Clean(d)) },
		"Victim":      func(d impl.Disk) impl.Disk { return impl.Disk{Epoch: impl.Victim(d)} },
		"Check":       func(d impl.Disk) impl.Disk { return impl.Disk{Epoch: impl.Check(d)} },
		"LiveBytes":   func(d impl.Disk) impl.Disk { return impl.Disk{Epoch: impl.LiveBytes(d)} },
		"UsedSectors": func(d impl.Disk) impl.Disk { return impl.Disk{Epoch: impl.UsedSectors(d)} },
	}
}

// wedgedLone can't be cleaned for want of room, spoiltTrio for a broken address behind others.
func wedgedLone() impl.Disk {
	d := lone()
	d.Epoch, d.Chain = impl.MaxEpoch, []int{2, 4, 5, 6, 7, 8}
	return d
}

func spoiltTrio() impl.Disk {
	d := trio(hasNoise(0, 10), hasNoise(2, 12), hasNoise(3, 13))
	d.Raw.Sectors[3] = slowPackBytes(packOf(0, 3, hasNoise(4, 4), none(6), hasNoise(1, 1)))
	return d
}

func TestRoomArgumentsStay(t *testing.T) {
	all := append(rightDisks(), full(), trio(), trio(has(4, 9), none(2)), lone(), wedgedLone(), spoiltTrio())
	for name, d := range wrongDisks() {
		if len(name)%5 == 0 {
			all = append(all, d)
		}
	}
	for seed := range uint64(100) {
		all = append(all, anyHeld(seed), crowdedOpen(crowdedHeld(seed), int(seed)), tightHeld(seed), drawn(seed))
	}
	acts := map[string]int{}
	for _, d := range all {
		got, code := impl.Clean(d)
		acts[actTold(d, got, code)]++
		for name, do := range roomDoes() {
			keepsDiskApart(t, name, d, do)
			allBytesAreApart(t, name, do(d))
		}
	}
	for _, act := range []string{"as it was", "changed", "sealed", "saved", "code 1", "code 3", "code 4"} {
		if acts[act] < 3 {
			t.Fatalf("acts %v", acts)
		}
	}
}

// oneList has one list at all sectors, and at all that wait for them, another one at both maps, and a third one at these addresses, which are open.
func oneList(open ...int) impl.Disk {
	one, blob := slowPackBytes(packOf(0, 1, hasNoise(1, 1), hasNoise(4, 4), hasNoise(6, 6))), hasNoise(0, 9).Blob
	d := newDisk(7, 9)
	for at := range d.Raw.Sectors {
		d.Raw.Sectors[at] = one
		d.Raw.Pending = append(d.Raw.Pending, impl.Pend{At: at, Data: one})
	}
	d.Map.L[1], d.Map.L[4], d.Map.L[6] = in(3, 0), in(3, 1), in(3, 2)
	d.Saved = d.Map
	for _, addr := range open {
		d.Open.Items = append(d.Open.Items, impl.Item{Addr: addr, Blob: blob})
	}
	return d
}

// One list at several places of an argument: the answer has one for each, where it is the disk as it was, too.
func TestListsOfRoomComeApart(t *testing.T) {
	d, crowded := oneList(), oneList(0, 2, 3)
	wedged := crowded
	wedged.Epoch, wedged.Chain = impl.MaxEpoch, []int{2, 4, 5, 6, 7, 8}
	saved := wedged
	saved.Epoch = 6
	broken := crowded
	broken.Map = mapOf(slices.Clone(crowded.Map.L)...)
	broken.Map.L[6].Index = 9
	broken.Saved = broken.Map
	victimless := crowded
	victimless.Chain = []int{3}
	for name, want := range map[string]struct {
		disk impl.Disk
		act  string
	}{
		"room": {d, "changed"}, "none": {crowded, "sealed"}, "one epoch": {saved, "saved"}, "wedged": {wedged, "code 3"},
		"a broken one": {broken, "code 4"}, "no victim": {victimless, "as it was"},
	} {
		before := clonedDisk(want.disk)
		got, code := cleanHolds(t, name, want.disk)
		if told := actTold(want.disk, got, code); told != want.act {
			t.Fatalf("%s: %s, want %s", name, told, want.act)
		}
		allBytesAreApart(t, name, got)
		placesAreApart(t, name, got)
		spoilDisk(got)
		if !sameDisk(want.disk, before) {
			t.Fatalf("%s: an argument changes with an answer", name)
		}
	}
}

func TestRoomKeepsNothing(t *testing.T) {
	keepNothing(t, roomDoes(), trio(), lone(), wedgedLone(), spoiltTrio(), plainDisk())
}
