package tests

import (
	"bytes"
	"fmt"
	"math"
	"slices"
	"strings"
	"testing"

	"loop.example/g00528/impl"
)

func toWrite(addr int, block []byte) impl.Cmd {
	return impl.Cmd{Kind: impl.CmWrite, Addr: addr, Block: block}
}

func toRead(addr int) impl.Cmd {
	return impl.Cmd{Kind: impl.CmRead, Addr: addr}
}

func toTrim(addr int) impl.Cmd {
	return impl.Cmd{Kind: impl.CmTrim, Addr: addr}
}

func toFlush() impl.Cmd {
	return impl.Cmd{Kind: impl.CmFlush}
}

func toSave() impl.Cmd {
	return impl.Cmd{Kind: impl.CmSave}
}

func toClean() impl.Cmd {
	return impl.Cmd{Kind: impl.CmClean}
}

func toCrash(keep ...bool) impl.Cmd {
	return impl.Cmd{Kind: impl.CmCrash, Keep: keep}
}

func slowCmdOk(c impl.Cmd) bool {
	size, flags := len(c.Block), len(c.Keep)
	switch c.Kind {
	case 0:
		return size <= 128 && flags == 0
	case 1, 2:
		return size == 0 && flags == 0
	case 3, 4, 5:
		return size == 0 && flags == 0 && c.Addr == 0
	case 6:
		return size == 0 && flags <= 60 && c.Addr == 0
	}
	return false
}

func slowCrashOf(d impl.Disk, keep []bool) (impl.Disk, int) {
	found, code := slowMount(impl.Raw{Sectors: slowKept(d.Raw, keep)})
	if code != impl.DkWell {
		return d, code
	}
	return found, code
}

func slowDo(d impl.Disk, c impl.Cmd) (impl.Disk, impl.Told) {
	if !slowDiskOk(d) || !slowCmdOk(c) {
		return impl.Disk{}, impl.Told{Code: impl.DkForm}
	}
	one := impl.Told{}
	switch c.Kind {
	case 0:
		d, one.Code = slowWriteOf(d, c.Addr, c.Block)
	case 1:
		one.Block, one.Code = slowReadOf(d, c.Addr)
	case 2:
		d, one.Code = slowTrimOf(d, c.Addr)
	case 3:
		d, one.Code = slowFlushOf(d)
	case 4:
		d, one.Code = slowSaveOf(d)
	case 5:
		d, one.Code = slowCleanOf(d)
	case 6:
		d, one.Code = slowCrashOf(d, c.Keep)
	}
	return d, one
}

// slowText takes what is right.
func slowText(d impl.Disk) string {
	lines := []string{fmt.Sprint("epoch ", d.Epoch, " ", d.Order), "free"}
	for _, sector := range slowFree(d) {
		lines[1] += fmt.Sprint(" ", sector)
	}
	for addr := range d.Map.L {
		blob, ok := slowHas(d, addr)
		switch {
		case !ok:
			lines = append(lines, fmt.Sprint("broken ", addr))
		case len(blob) == 0:
			lines = append(lines, fmt.Sprint("empty ", addr))
		default:
			lines = append(lines, fmt.Sprintf("has %d %d %d", addr, blob[0], len(blob)))
		}
	}
	return strings.Join(lines, "\n") + "\n"
}

func sameTold(a impl.Told, b impl.Told) bool {
	return a.Code == b.Code && bytes.Equal(a.Block, b.Block)
}

func doHolds(t *testing.T, name string, d impl.Disk, c impl.Cmd) (impl.Disk, impl.Told) {
	t.Helper()
	want, wantTold := slowDo(d, c)
	got, told := impl.Do(d, c)
	if !sameTold(told, wantTold) || !sameDisk(got, want) {
		t.Fatalf("%s: Do of %+v over %s tells %v, %s; want %v, %s", name, c, diskText(d), told, diskText(got), wantTold, diskText(want))
	}
	if impl.DiskOk(got) != (slowDiskOk(d) && slowCmdOk(c)) {
		t.Fatalf("%s: Do of %+v over %s leaves %s", name, c, diskText(d), diskText(got))
	}
	return got, told
}

// runHolds takes what is right: Run is Do of each, one over the other.
func runHolds(t *testing.T, name string, d impl.Disk, l []impl.Cmd) (impl.Disk, []impl.Told) {
	t.Helper()
	want, wantTold := clonedDisk(d), []impl.Told{}
	for i, c := range l {
		one := impl.Told{}
		want, one = doHolds(t, fmt.Sprint(name, ", command ", i), want, c)
		wantTold = append(wantTold, one)
	}
	wantRun(t, name, d, l, want, wantTold)
	return want, wantTold
}

func wantRun(t *testing.T, name string, d impl.Disk, l []impl.Cmd, want impl.Disk, wantTold []impl.Told) {
	t.Helper()
	got, all, ok := impl.Run(d, l)
	if !ok || !slices.EqualFunc(all, wantTold, sameTold) || !sameDisk(got, want) {
		t.Fatalf("%s: Run of %+v over %s tells %v, %v, %s; want %v, %s", name, l, diskText(d), ok, all, diskText(got), wantTold, diskText(want))
	}
	if !impl.DiskOk(got) {
		t.Fatalf("%s: Run of %+v over %s leaves %s", name, l, diskText(d), diskText(got))
	}
}

func wantNoRun(t *testing.T, name string, d impl.Disk, l []impl.Cmd) {
	t.Helper()
	got, all, ok := impl.Run(d, l)
	if ok || len(all) != 0 || !sameDisk(got, impl.Disk{}) {
		t.Fatalf("%s: Run of %d commands tells %v, %v, %s; want the zero value, nothing and false", name, len(l), ok, all, diskText(got))
	}
}

// wantDone tells of a command that it leaves a disk, and what it tells.
func wantDone(t *testing.T, name string, d impl.Disk, c impl.Cmd, want impl.Disk, wantTold impl.Told) impl.Disk {
	t.Helper()
	got, told := impl.Do(d, c)
	if !sameTold(told, wantTold) || !sameDisk(got, want) {
		t.Fatalf("%s: Do of %+v tells %v, %s; want %v, %s", name, c, told, diskText(got), wantTold, diskText(want))
	}
	doHolds(t, name, d, c)
	wantRun(t, name, d, []impl.Cmd{c}, want, []impl.Told{wantTold})
	return got
}

func wantChanged(t *testing.T, name string, d impl.Disk, c impl.Cmd, want impl.Disk) impl.Disk {
	t.Helper()
	return wantDone(t, name, d, c, want, impl.Told{})
}

func wantStays(t *testing.T, name string, d impl.Disk, c impl.Cmd, code int) {
	t.Helper()
	wantDone(t, name, d, c, d, impl.Told{Code: code})
}

func wantNotDone(t *testing.T, name string, d impl.Disk, c impl.Cmd) {
	t.Helper()
	got, told := impl.Do(d, c)
	if !sameTold(told, impl.Told{Code: impl.DkForm}) || !sameDisk(got, impl.Disk{}) {
		t.Fatalf("%s: Do of %+v tells %v, %s; want the zero value and DkForm", name, c, told, diskText(got))
	}
}

func wantText(t *testing.T, name string, d impl.Disk, lines ...string) {
	t.Helper()
	want := ""
	for _, line := range lines {
		want += line + "\n"
	}
	if got := impl.DiskText(d); string(got) != want {
		t.Fatalf("%s: DiskText is %q, want %q, of %s", name, got, want, diskText(d))
	}
}

func wantCmd(t *testing.T, name string, c impl.Cmd, want bool) {
	t.Helper()
	if impl.CmdOk(c) != want {
		t.Fatalf("%s: CmdOk is %v of the kind %d, the address %d, %d bytes and %d flags", name, !want, c.Kind, c.Addr, len(c.Block), len(c.Keep))
	}
}

func TestCmdOkByHand(t *testing.T) {
	for kind := impl.CmWrite; kind <= impl.CmCrash; kind++ {
		wantCmd(t, "nothing beside", impl.Cmd{Kind: kind}, true)
		wantCmd(t, "empty lists", impl.Cmd{Kind: kind, Block: []byte{}, Keep: []bool{}}, true)
		wantCmd(t, "bytes and flags behind the length", impl.Cmd{Kind: kind, Block: make([]byte, 500)[:0], Keep: ones(500)[:0]}, true)
		for _, size := range []int{1, 2, 63, 64, 65, 127, 128} {
			wantCmd(t, "a block", impl.Cmd{Kind: kind, Block: make([]byte, size)}, kind == impl.CmWrite)
			wantCmd(t, "a block, bytes behind it", impl.Cmd{Kind: kind, Block: make([]byte, 500)[:size]}, kind == impl.CmWrite)
		}
		for _, size := range []int{129, 130, 192, 256, 1000} {
			wantCmd(t, "too many bytes", impl.Cmd{Kind: kind, Block: make([]byte, size)}, false)
		}
		for _, size := range []int{1, 2, 59, 60} {
			wantCmd(t, "flags", impl.Cmd{Kind: kind, Keep: make([]bool, size)}, kind == impl.CmCrash)
			wantCmd(t, "flags, more behind them", impl.Cmd{Kind: kind, Keep: ones(500)[:size]}, kind == impl.CmCrash)
			wantCmd(t, "flags and bytes", impl.Cmd{Kind: kind, Keep: make([]bool, size), Block: noise(1)}, false)
		}
		for _, size := range []int{61, 62, 120, 1000} {
			wantCmd(t, "too many flags", impl.Cmd{Kind: kind, Keep: make([]bool, size)}, false)
		}
		for _, addr := range []int{math.MinInt, -256, -1, 1, 15, 16, 17, 256, 1 << 32, math.MaxInt} {
			wantCmd(t, "an address", impl.Cmd{Kind: kind, Addr: addr}, kind <= impl.CmTrim)
		}
	}
	for _, kind := range []int{math.MinInt, -256, -2, -1, 7, 8, 256, 262, 1 << 32, math.MaxInt} {
		wantCmd(t, "no kind", impl.Cmd{Kind: kind}, false)
		wantCmd(t, "no kind, a block", impl.Cmd{Kind: kind, Addr: 1, Block: noise(1)}, false)
		wantCmd(t, "no kind, flags", impl.Cmd{Kind: kind, Keep: ones(1)}, false)
	}
}

func TestCmdOkOfAllParts(t *testing.T) {
	right := 0
	for _, kind := range []int{math.MinInt, -1, 0, 1, 2, 3, 4, 5, 6, 7, math.MaxInt} {
		for _, size := range []int{0, 1, 63, 64, 65, 127, 128, 129, 1000} {
			for _, flags := range []int{0, 1, 59, 60, 61, 300} {
				for _, addr := range []int{math.MinInt, -1, 0, 1, 15, 16, 256, 1 << 32, math.MaxInt} {
					c := impl.Cmd{Kind: kind, Addr: addr, Block: make([]byte, size), Keep: make([]bool, flags)}
					wantCmd(t, "all parts", c, slowCmdOk(c))
					if slowCmdOk(c) {
						right++
					}
				}
			}
		}
	}
	if right != 7*9+9+9+1+1+1+4 {
		t.Fatalf("%d are right", right)
	}
}

// wedged has Open full, an address at each sector, and nothing to be put there, flushed or saved.
func wedged() impl.Disk {
	d := full()
	d.Map = mapOf(in(2, 0), in(3, 0), in(4, 0), in(5, 0), in(6, 0), in(7, 0), in(8, 0))
	return d
}

func farAddrs() []int {
	return []int{math.MinInt, -256, -1, 7, 8, 15, 16, 256, 1 << 32, math.MaxInt}
}

func TestDoWrite(t *testing.T) {
	d := opened(has(2, 1), none(4))
	wantChanged(t, "room in Open", d, toWrite(6, noise(1)), opens(d, has(2, 1), none(4), hasNoise(6, 1)))
	wantChanged(t, "the first address, noughts", d, toWrite(0, noughts()), opens(d, has(2, 1), none(4), has(0, 0)))
	wantChanged(t, "in place of one", d, toWrite(2, runBlock(7)), opens(d, none(4), has(2, 7)))
	wantChanged(t, "in place of one that is trimmed", d, toWrite(4, runBlock(7)), opens(d, has(2, 1), has(4, 7)))
	d = full()
	wantChanged(t, "sealed on the way", d, toWrite(5, noise(70)), sealedThen(d, 2, hasNoise(5, 70)))
	d.Chain = []int{6, 2, 8, 5, 4, 7}
	wantChanged(t, "saved on the way", d, toWrite(5, noise(70)), savedSealed(d, 2, hasNoise(5, 70)))
	for _, d := range []impl.Disk{opened(), opened(has(2, 1), none(4)), full(), wedged()} {
		for _, addr := range farAddrs() {
			wantStays(t, "no such address", d, toWrite(addr, noise(1)), impl.DkRange)
			wantStays(t, "no such address, no block", d, toWrite(addr, nil), impl.DkRange)
		}
		for _, size := range []int{0, 1, 63, 65, 127, 128} {
			wantStays(t, "no block", d, toWrite(3, sectorOf(1)[:size]), impl.DkRange)
			wantStays(t, "no block, and no such address", d, toWrite(7, sectorOf(1)[:size]), impl.DkRange)
		}
		wantNotDone(t, "too many bytes", d, toWrite(3, sectorOf(1)[:129]))
		wantNotDone(t, "too many bytes, no such address", d, toWrite(7, sectorOf(1)[:129]))
	}
	d = wedged()
	wantStays(t, "no room", d, toWrite(5, noise(70)), impl.DkSpace)
	wantChanged(t, "no room, but who is open already", d, toWrite(2, noise(70)), opens(d, hasNoise(0, 1), hasNoise(1, 2), hasSize(3, 46), hasNoise(2, 70)))
	d.Map, d.Epoch, d.Chain = nowhere(7), impl.MaxEpoch, []int{6, 2, 8, 5, 4, 7}
	wantStays(t, "no epoch is left", d, toWrite(5, noise(70)), impl.DkSpace)
}

func TestDoRead(t *testing.T) {
	d := packed(has(1, 11), hasNoise(4, 4), has(3, 10))
	d.Map.L[3] = in(3, 2)
	d.Map.L[0] = in(3, 1)
	d.Map.L[4] = in(4, 0)
	d.Raw.Sectors[4] = slowPackBytes(packOf(0, 1, hasNoise(4, 44)))
	d.Open = packOf(0, 0, none(1), has(2, 9))
	for _, waits := range []bool{false, true} {
		if waits {
			d.Raw = waiting(d.Raw, 6, sectorOf(6))
		}
		wantStays(t, "another Addr is there", d, toRead(0), impl.DkCorrupt)
		wantDone(t, "open with an empty Blob", d, toRead(1), d, impl.Told{Block: noughts()})
		wantDone(t, "open", d, toRead(2), d, impl.Told{Block: runBlock(9)})
		wantDone(t, "at its place", d, toRead(3), d, impl.Told{Block: runBlock(10)})
		wantDone(t, "at its place, in another sector", d, toRead(4), d, impl.Told{Block: noise(44)})
		for _, addr := range []int{math.MinInt, -1, 5, 6, 16, 256, math.MaxInt} {
			wantStays(t, "no such address", d, toRead(addr), impl.DkRange)
		}
	}
	d = newDisk(7, 9)
	for addr := range 7 {
		wantDone(t, "nowhere", d, toRead(addr), d, impl.Told{Block: noughts()})
	}
}

func TestDoTrim(t *testing.T) {
	d := opened(has(2, 1), none(4))
	wantChanged(t, "room in Open", d, toTrim(6), opens(d, has(2, 1), none(4), none(6)))
	wantChanged(t, "the first address", d, toTrim(0), opens(d, has(2, 1), none(4), none(0)))
	wantChanged(t, "in place of one", d, toTrim(2), opens(d, none(4), none(2)))
	wantChanged(t, "trimmed again", d, toTrim(4), opens(d, has(2, 1), none(4)))
	d = full()
	wantChanged(t, "sealed on the way", d, toTrim(5), sealedThen(d, 2, none(5)))
	d.Chain = []int{6, 2, 8, 5, 4, 7}
	wantChanged(t, "saved on the way", d, toTrim(5), savedSealed(d, 2, none(5)))
	for _, d := range []impl.Disk{opened(), full(), wedged()} {
		for _, addr := range farAddrs() {
			wantStays(t, "no such address", d, toTrim(addr), impl.DkRange)
		}
	}
	d = wedged()
	wantStays(t, "no room", d, toTrim(5), impl.DkSpace)
	wantChanged(t, "no room, but who is open already", d, toTrim(2), opens(d, hasNoise(0, 1), hasNoise(1, 2), hasSize(3, 46), none(2)))
}

// settledThen is what is left where all that waits is written.
func settledThen(d impl.Disk) impl.Disk {
	c := clonedDisk(d)
	c.Raw = slowSettled(d.Raw)
	return c
}

// savedAs is what a save leaves.
func savedAs(d impl.Disk) impl.Disk {
	c := settledThen(d)
	c.Epoch, c.Order, c.Saved, c.Chain = d.Epoch+1, 0, mapOf(slices.Clone(d.Map.L)...), nil
	c.Raw.Sectors[c.Epoch%2] = slowSuperBytes(c.Epoch, c.Map)
	return c
}

func TestDoFlushAndSave(t *testing.T) {
	d := plainDisk()
	flushed := settledThen(opens(sealedThen(d, 5, none(0))))
	wantChanged(t, "flush", d, toFlush(), flushed)
	wantChanged(t, "save", d, toSave(), savedAs(flushed))
	wantChanged(t, "flush again", flushed, toFlush(), flushed)
	wantChanged(t, "save behind a flush", flushed, toSave(), savedAs(flushed))
	wantChanged(t, "save again", savedAs(flushed), toSave(), savedAs(savedAs(flushed)))
	d.Open = impl.Pack{}
	wantChanged(t, "flush, nothing is open", d, toFlush(), settledThen(d))
	wantChanged(t, "save, nothing is open", d, toSave(), savedAs(d))
	d = full()
	d.Chain = []int{6, 2, 8, 5, 4, 7, 3}
	flushed = settledThen(opens(savedSealed(d, 2, none(0))))
	wantChanged(t, "flush, none is free", d, toFlush(), flushed)
	wantChanged(t, "save, none is free", d, toSave(), savedAs(flushed))
	for _, c := range []impl.Cmd{toFlush(), toSave()} {
		wantStays(t, "no room", wedged(), c, impl.DkSpace)
		d.Epoch = impl.MaxEpoch
		wantStays(t, "no epoch is left", d, c, impl.DkSpace)
	}
	d.Epoch = impl.MaxEpoch - 1
	wantChanged(t, "flush, one epoch is left", d, toFlush(), settledThen(opens(savedSealed(d, 2, none(0)))))
	wantStays(t, "save, one epoch is left, flush takes it", d, toSave(), impl.DkSpace)
	d = full()
	d.Epoch = impl.MaxEpoch
	wantChanged(t, "flush, no epoch is left", d, toFlush(), settledThen(opens(sealedThen(d, 2, none(0)))))
	wantStays(t, "save, no epoch is left", d, toSave(), impl.DkSpace)
}

func TestDoClean(t *testing.T) {
	one, four, six := hasNoise(1, 1), hasNoise(4, 4), has(6, 6)
	d := trio()
	got := wantChanged(t, "room in Open", d, toClean(), opens(d, one, four, six))
	wantChanged(t, "again", got, toClean(), got)
	d = trio(has(0, 9), none(6))
	wantChanged(t, "one of them is open", d, toClean(), opens(d, has(0, 9), none(6), one, four))
	d = lone()
	wantChanged(t, "sealed on the way", d, toClean(), sealedThen(d, 2, one))
	d.Chain = []int{2, 4, 5, 6, 7, 8}
	wantChanged(t, "saved on the way", d, toClean(), savedSealed(d, 2, one))
	for _, d := range []impl.Disk{newDisk(7, 9), opened(has(2, 1), none(4)), full()} {
		wantStays(t, "no victim", d, toClean(), impl.DkWell)
	}
	wantStays(t, "no room", wedgedLone(), toClean(), impl.DkSpace)
	wantStays(t, "a broken one", spoiltTrio(), toClean(), impl.DkCorrupt)
}

// crashable has two packs in their sectors, two that wait, and something open.
func crashable(t *testing.T) impl.Disk {
	t.Helper()
	d := newDisk(8, 12)
	for addr := range 16 {
		if addr == 8 {
			d, _ = slowFlushOf(d)
		}
		d, _ = slowWriteOf(d, addr%8, noise(50*(addr/8)+addr%8))
	}
	if len(d.Raw.Pending) != 2 || len(d.Open.Items) != 2 || d.Epoch != 1 || len(d.Chain) != 5 {
		t.Fatal(diskText(d))
	}
	return d
}

func TestDoCrash(t *testing.T) {
	d := crashable(t)
	flushed := [][]byte{}
	for addr := range 8 {
		flushed = append(flushed, noise(addr))
	}
	for name, row := range map[string]struct {
		keep  []bool
		newer int
	}{
		"no flags":                    {nil, 0},
		"an empty list":               {[]bool{}, 0},
		"shorter, nothing is kept":    {[]bool{false}, 0},
		"shorter, the first is kept":  {[]bool{true}, 3},
		"none is kept":                {[]bool{false, false}, 0},
		"the first is kept":           {[]bool{true, false}, 3},
		"the second is kept":          {[]bool{false, true}, 0},
		"all are kept":                {[]bool{true, true}, 6},
		"longer, all are kept":        {ones(3), 6},
		"longer, those there are not": {[]bool{false, false, true, true}, 0},
		"longer, the first is kept":   {[]bool{true, false, true}, 3},
		"MaxPending, all are kept":    {ones(impl.MaxPending), 6},
		"MaxPending, none is kept":    {make([]bool, impl.MaxPending), 0},
	} {
		got, told := doHolds(t, name, d, toCrash(row.keep...))
		want, code := impl.Mount(impl.Raw{Sectors: slowKept(d.Raw, row.keep)})
		if code != impl.DkWell || !sameTold(told, impl.Told{}) || !sameDisk(got, want) || got.Epoch != 2 || len(got.Open.Items) != 0 {
			t.Fatalf("%s: told %v, %s; want %s", name, told, diskText(got), diskText(want))
		}
		now := slices.Clone(flushed)
		for addr := range row.newer {
			now[addr] = noise(50 + addr)
		}
		soundHolds(t, name, got, now)
	}
	wantNotDone(t, "one flag more than MaxPending", d, toCrash(ones(impl.MaxPending+1)...))
	many := newDisk(7, 9)
	many.Raw.Pending = rawOf(9, alike(impl.MaxPending, 4)...).Pending
	for _, keep := range keepsOf(impl.MaxPending) {
		if len(keep) <= impl.MaxPending {
			doHolds(t, "MaxPending wait", many, toCrash(keep...))
		}
	}
}

// Where nothing is found again the disk is as it was, with all that waits and all that is open.
func TestDoCrashWhereNoneIsFound(t *testing.T) {
	for name, row := range map[string]struct {
		one   []byte
		other []byte
		code  int
	}{
		"noughts":                     {make([]byte, impl.RawBytes), make([]byte, impl.RawBytes), impl.DkCorrupt},
		"any bytes":                   {sectorOf(1), sectorOf(2), impl.DkCorrupt},
		"packs":                       {slowPackBytes(packOf(1, 1)), slowPackBytes(packOf(1, 2)), impl.DkCorrupt},
		"too many addresses":          {sectorOf(1), slowSuperBytes(5, nowhere(13)), impl.DkGeom},
		"a place that is not there":   {slowSuperBytes(4, nowhere(7)), slowSuperBytes(5, mapOf(in(9, 0))), impl.DkGeom},
		"no epoch is left":            {slowSuperBytes(impl.MaxEpoch, nowhere(7)), slowSuperBytes(5, nowhere(7)), impl.DkSpace},
		"neither shape nor an epoch":  {slowSuperBytes(impl.MaxEpoch, nowhere(16)), slowSuperBytes(5, nowhere(7)), impl.DkGeom},
		"a wrong one and no epoch":    {sectorOf(1), slowSuperBytes(impl.MaxEpoch, nowhere(7)), impl.DkSpace},
		"the older one has the shape": {slowSuperBytes(5, nowhere(7)), slowSuperBytes(6, nowhere(14)), impl.DkGeom},
	} {
		d := opened(has(2, 1), none(4))
		d.Raw.Sectors[0], d.Raw.Sectors[1] = row.one, row.other
		d.Raw = waiting(waiting(d.Raw, 4, sectorOf(4)), 5, sectorOf(5))
		for _, keep := range [][]bool{nil, {true}, {false, true}, ones(2), ones(impl.MaxPending)} {
			wantStays(t, name, d, toCrash(keep...), row.code)
		}
		d.Raw.Sectors[0], d.Raw.Sectors[1] = slowSuperBytes(1, nowhere(7)), slowSuperBytes(2, nowhere(7))
		d.Raw = waiting(waiting(d.Raw, 0, row.one), 1, row.other)
		wantStays(t, name+", kept", d, toCrash(ones(4)...), row.code)
		if got, told := doHolds(t, name+", lost", d, toCrash(ones(2)...)); told.Code != impl.DkWell || got.Epoch != 3 {
			t.Fatalf("%s: told %v, %s", name, told, diskText(got))
		}
	}
}

// What a crash finds is what the device tells, whatever the disk had.
func TestDoCrashFindsWhatIsThere(t *testing.T) {
	d := opened(has(2, 1), none(4))
	d.Map, d.Saved, d.Chain, d.Order = together(7, 4), together(7, 5), []int{8, 2}, 99
	want := newDisk(7, 9)
	want.Epoch = 2
	want.Raw.Sectors[0] = slowSuperBytes(2, nowhere(7))
	wantChanged(t, "the map that is there", d, toCrash(), want)
	want = newDisk(3, 9)
	want.Epoch, want.Map, want.Saved = 8, mapOf(in(5, 1), in(0, 0), in(0, 0)), mapOf(in(5, 1), in(0, 0), in(0, 0))
	d.Raw.Sectors[0], want.Raw.Sectors[0] = sectorOf(1), slowSuperBytes(8, want.Map)
	d.Raw.Sectors[1], want.Raw.Sectors[1] = slowSuperBytes(7, want.Map), slowSuperBytes(7, want.Map)
	wantChanged(t, "fewer addresses", d, toCrash(), want)
	d.Raw = waiting(d.Raw, 1, slowSuperBytes(9, nowhere(2)))
	wantChanged(t, "what waits for the first two is lost", d, toCrash(), want)
	want.Epoch, want.Map, want.Saved = 10, nowhere(2), nowhere(2)
	want.Raw.Sectors[0], want.Raw.Sectors[1] = slowSuperBytes(10, nowhere(2)), slowSuperBytes(9, nowhere(2))
	wantChanged(t, "what waits for the first two is kept", d, toCrash(true), want)
}

// rightCmds are of each kind, done by most disks of five addresses and more, and refused.
func rightCmds() []impl.Cmd {
	return []impl.Cmd{
		toWrite(0, noise(2)), toWrite(4, noise(9)), toWrite(1, runBlock(3)), toWrite(-1, noise(1)), toWrite(16, noise(1)), toWrite(2, nil), toWrite(2, sectorOf(1)[:63]), toWrite(2, sectorOf(1)[:128]),
		toRead(0), toRead(4), toRead(2), toRead(-1), toRead(math.MaxInt),
		toTrim(0), toTrim(4), toTrim(-1), toTrim(math.MinInt),
		toFlush(), toSave(), toClean(), toCrash(), toCrash(true), toCrash(false, true, true), toCrash(ones(60)...),
	}
}

func wrongCmds() map[string]impl.Cmd {
	all := map[string]impl.Cmd{
		"no kind":             {Kind: -1},
		"no kind above":       {Kind: 7},
		"a far kind":          {Kind: math.MaxInt},
		"a far kind below":    {Kind: math.MinInt, Addr: 1},
		"no kind, a block":    {Kind: 7, Addr: 1, Block: noise(1)},
		"too many bytes":      toWrite(0, sectorOf(1)[:129]),
		"far too many bytes":  toWrite(0, sectorOf(1)),
		"bytes and flags":     {Block: noise(1), Keep: []bool{true}},
		"too many flags":      toCrash(ones(61)...),
		"too many, none kept": toCrash(make([]bool, 61)...),
		"far too many flags":  toCrash(ones(1000)...),
	}
	for kind := impl.CmWrite; kind <= impl.CmCrash; kind++ {
		if kind != impl.CmWrite {
			all[fmt.Sprint("bytes, kind ", kind)] = impl.Cmd{Kind: kind, Block: []byte{0}}
			all[fmt.Sprint("a block, kind ", kind)] = impl.Cmd{Kind: kind, Block: noise(1)}
		}
		if kind != impl.CmCrash {
			all[fmt.Sprint("flags, kind ", kind)] = impl.Cmd{Kind: kind, Keep: []bool{false}}
		}
		if kind > impl.CmTrim {
			all[fmt.Sprint("an address, kind ", kind)] = impl.Cmd{Kind: kind, Addr: 1}
			all[fmt.Sprint("an address below 0, kind ", kind)] = impl.Cmd{Kind: kind, Addr: -1}
		}
	}
	return all
}

func TestDoOfAnyDisk(t *testing.T) {
	done := map[string]int{}
	for seed := range uint64(700) {
		d := anyHeld(seed)
		switch seed % 5 {
		case 1, 2:
			d = crowdedOpen(crowdedHeld(seed), int(seed))
		case 3:
			d = tightHeld(seed)
		case 4:
			d = drawn(seed)
		}
		for _, c := range rightCmds() {
			got, told := doHolds(t, fmt.Sprint("seed ", seed), d, c)
			done[fmt.Sprintf("%d: %s", c.Kind, actTold(d, got, told.Code))]++
		}
	}
	for _, act := range []string{
		"0: changed", "0: sealed", "0: saved", "0: code 2", "0: code 3", "1: as it was", "1: code 2", "1: code 4", "2: changed", "2: sealed", "2: saved", "2: code 2", "2: code 3",
		"3: changed", "3: sealed", "3: saved", "3: code 3", "4: saved", "4: code 3", "5: as it was", "5: changed", "5: sealed", "5: saved", "5: code 3", "5: code 4", "6: saved", "6: code 4",
	} {
		if done[act] < 12 {
			t.Fatalf("%s: done %v", act, done)
		}
	}
}

func TestRunOfNone(t *testing.T) {
	all := append(rightDisks(), crashable(t), full(), wedged(), spoiltTrio())
	for _, d := range all {
		wantRun(t, "nil", d, nil, d, nil)
		wantRun(t, "an empty list", d, []impl.Cmd{}, d, nil)
		wantRun(t, "commands behind the length", d, rightCmds()[:0], d, nil)
	}
}

func TestRunOfMany(t *testing.T) {
	for _, d := range []impl.Disk{newDisk(5, 8), plainDisk(), crashable(t), full(), trio(), lone(), wedged()} {
		for _, c := range rightCmds() {
			runHolds(t, "one", d, []impl.Cmd{c})
		}
		l := slices.Concat(rightCmds(), rightCmds())[:31]
		for _, size := range []int{2, 3, 29, 30} {
			runHolds(t, fmt.Sprint(size, " commands"), d, l[:size])
		}
		wantNoRun(t, "one more than MaxScript", d, l)
		wantNoRun(t, "far more", d, slices.Repeat(l, 50))
		wantNoRun(t, "too many that change nothing", d, slices.Repeat([]impl.Cmd{toRead(0)}, impl.MaxScript+1))
		if _, told := runHolds(t, "reads", d, slices.Repeat([]impl.Cmd{toRead(0)}, impl.MaxScript)); len(told) != impl.MaxScript {
			t.Fatalf("%d are told", len(told))
		}
	}
}

// A wrong command, wherever it stands: nothing is done.
func TestRunWithAWrongOne(t *testing.T) {
	for _, size := range []int{1, 2, 3, 10, impl.MaxScript} {
		l := slices.Concat(rightCmds(), rightCmds())[:size]
		for name, c := range wrongCmds() {
			for _, at := range []int{0, size / 2, size - 1} {
				spoilt := slices.Clone(l)
				spoilt[at] = c
				for _, d := range []impl.Disk{newDisk(5, 8), full(), wedged()} {
					wantNoRun(t, fmt.Sprint(name, ", at ", at, " of ", size), d, spoilt)
				}
			}
			d := newDisk(5, 8)
			if _, told := runHolds(t, name+", behind the length", d, append(slices.Clone(l), c)[:size]); len(told) != size {
				t.Fatalf("%s: %d are told", name, len(told))
			}
		}
	}
}

// Those behind one that is refused are done all the same.
func TestRunGoesOn(t *testing.T) {
	d := newDisk(7, 9)
	l := []impl.Cmd{
		toWrite(7, noise(1)), toWrite(1, noise(1)), toWrite(2, noise(2)[:63]), toRead(1), toRead(-1), toTrim(9), toWrite(1, noise(3)), toRead(1),
		toFlush(), toTrim(1), toRead(1), toCrash(), toRead(1), toWrite(0, noise(4)), toSave(), toRead(7), toClean(), toCrash(true), toRead(0), toRead(1),
	}
	codes := []int{2, 0, 2, 0, 2, 2, 0, 0, 0, 0, 0, 0, 0, 0, 0, 2, 0, 0, 0, 0}
	blocks := map[int][]byte{3: noise(1), 7: noise(3), 10: noughts(), 12: noise(3), 18: noise(4), 19: noise(3)}
	_, told := runHolds(t, "refused in the midst", d, l)
	for i, one := range told {
		if one.Code != codes[i] || !bytes.Equal(one.Block, blocks[i]) {
			t.Fatalf("the command %d tells %v", i, one)
		}
	}
	d = wedged()
	got, told := runHolds(t, "no room", d, []impl.Cmd{toFlush(), toWrite(5, noise(1)), toSave(), toTrim(4), toWrite(0, runBlock(1)), toRead(0), toTrim(4), toFlush()})
	for i, code := range []int{3, 3, 3, 3, 0, 0, 0, 3} {
		if told[i].Code != code {
			t.Fatalf("the command %d tells %v", i, told[i])
		}
	}
	wantDisk(t, "no room", got, impl.DkWell, opens(d, hasNoise(1, 2), hasNoise(2, 3), hasSize(3, 46), has(0, 1), none(4)))
	d = spoiltTrio()
	_, told = runHolds(t, "a broken one", d, []impl.Cmd{toRead(6), toClean(), toWrite(6, noise(6)), toRead(6), toClean(), toRead(4)})
	for i, code := range []int{4, 4, 0, 0, 0, 0} {
		if told[i].Code != code {
			t.Fatalf("the command %d tells %v", i, told[i])
		}
	}
}

func TestRunOfAnyDisk(t *testing.T) {
	for seed := range uint64(150) {
		d := anyHeld(seed)
		if seed%2 > 0 {
			d = crowdedOpen(crowdedHeld(seed), int(seed))
		}
		runHolds(t, fmt.Sprint("seed ", seed), d, drawnScript(len(d.Map.L), 12, "wwrrtfscxx", seed))
	}
}

func TestDiskTextByHand(t *testing.T) {
	wantText(t, "a new disk", newDisk(2, 6), "epoch 1 0", "free 2 3 4 5", "empty 0", "empty 1")
	wantText(t, "one address", newDisk(1, 6), "epoch 1 0", "free 2 3 4 5", "empty 0")
	d := opened(hasNoise(5, 1), none(0), has(2, 9), hasSize(1, 43), impl.Item{Addr: 4, Blob: []byte{}})
	sealed := blobOf(43)[0]
	wantText(t, "open, in another order", d, "epoch 1 0", "free 2 3 4 5 6 7 8", "empty 0", fmt.Sprintf("has 1 %d 43", sealed), "has 2 1 2", "empty 3", "empty 4", "has 5 0 65", "empty 6")
	d = packed(has(1, 11), hasNoise(4, 4), has(0, 10), has(2, 12))
	d.Saved = d.Map
	wantText(t, "at their places", d, "epoch 1 0", "free 2 4 5 6 7", "has 0 1 2", "has 1 1 2", "empty 2", "empty 3", "has 4 0 65")
	d.Open = packOf(0, 0, none(4), hasNoise(0, 1), has(3, 1))
	wantText(t, "at their places, and open", d, "epoch 1 0", "free 2 4 5 6 7", "has 0 0 65", "has 1 1 2", "empty 2", "has 3 1 2", "empty 4")
	d.Raw.Sectors[3][0] = 'Q'
	wantText(t, "broken, and open", d, "epoch 1 0", "free 2 4 5 6 7", "has 0 0 65", "broken 1", "empty 2", "has 3 1 2", "empty 4")
	d.Open = impl.Pack{}
	wantText(t, "broken", d, "epoch 1 0", "free 2 4 5 6 7", "broken 0", "broken 1", "empty 2", "empty 3", "broken 4")
	d.Raw = waiting(d.Raw, 3, slowPackBytes(packOf(1, 1, hasNoise(1, 11), has(4, 4), none(0))))
	wantText(t, "what waits", d, "epoch 1 0", "free 2 4 5 6 7", "broken 0", "has 1 0 65", "empty 2", "empty 3", "has 4 1 2")
	d.Chain = []int{7, 4, 2, 5}
	wantText(t, "one is free", d, "epoch 1 0", "free 6", "broken 0", "has 1 0 65", "empty 2", "empty 3", "has 4 1 2")
	d.Chain = []int{6, 7, 4, 2, 5}
	wantText(t, "none is free", d, "epoch 1 0", "free", "broken 0", "has 1 0 65", "empty 2", "empty 3", "has 4 1 2")
	wantText(t, "plain", plainDisk(), "epoch 6 2", "free 5 7", "broken 0", "empty 1", "empty 2", "broken 3", "has 4 1 2")
}

func TestDiskTextOfLongNumbers(t *testing.T) {
	d := newDisk(16, 24)
	d.Epoch, d.Order = impl.MaxEpoch, 12345
	lines := []string{"epoch 60000 12345", "free 2 3 4 5 6 7 8 9 10 11 12 13 14 15 16 17 18 19 20 21 22 23"}
	for addr := range 16 {
		lines = append(lines, fmt.Sprint("empty ", addr))
	}
	wantText(t, "nothing is anywhere", d, lines...)
	d.Chain = []int{9, 11, 10, 2, 3, 4, 5, 6, 7, 8, 20, 21, 22, 23, 12, 13, 14, 15, 16, 17}
	d.Open = packOf(0, 0, hasNoise(15, 1), has(10, 2), none(11))
	d.Map.L[12], d.Map.L[9] = in(18, 15), in(18, 0)
	d.Saved = d.Map
	d.Epoch, d.Order = 10, 10
	lines[0], lines[1], lines[11], lines[12], lines[14], lines[17] = "epoch 10 10", "free 19", "broken 9", "has 10 1 2", "broken 12", "has 15 0 65"
	wantText(t, "of two digits", d, lines...)
	for _, n := range []int{0, 9, 10, 99, 100, 999, 1000, 9999, 10000, impl.MaxEpoch} {
		d.Epoch, d.Order = n, impl.MaxEpoch-n
		lines[0] = fmt.Sprintf("epoch %d %d", n, impl.MaxEpoch-n)
		wantText(t, "of many digits", d, lines...)
	}
}

// The first byte of a Blob and its size, of each mode, open and at a place.
func TestDiskTextOfEachMode(t *testing.T) {
	modes := map[byte]int{}
	for i, block := range someBlocks() {
		blob, _ := slowEncode(block)
		x := impl.Item{Addr: 4, Blob: blob}
		line := fmt.Sprintf("has 4 %d %d", blob[0], len(blob))
		modes[blob[0]]++
		d := newDisk(5, 8)
		d.Open = packOf(0, 0, x)
		wantText(t, fmt.Sprint("open ", i), d, "epoch 1 0", "free 2 3 4 5 6 7", "empty 0", "empty 1", "empty 2", "empty 3", line)
		d.Open, d.Map.L[4] = impl.Pack{}, in(5, 0)
		d.Raw.Sectors[5] = slowPackBytes(packOf(0, 1, x))
		wantText(t, fmt.Sprint("at its place ", i), d, "epoch 1 0", "free 2 3 4 6 7", "empty 0", "empty 1", "empty 2", "empty 3", line)
	}
	for mode := range byte(4) {
		if modes[mode] < 2 {
			t.Fatalf("modes %v", modes)
		}
	}
}

func TestDiskTextOfBrokenAddresses(t *testing.T) {
	for name, row := range spoiltSectors() {
		d := packed()
		d.Raw.Sectors[3] = row.sector
		text := string(impl.DiskText(d))
		for addr := range 5 {
			is := strings.Contains(text, fmt.Sprintf("\nbroken %d\n", addr))
			if is != slices.Contains(row.broken, addr) {
				t.Fatalf("%s: %q", name, text)
			}
		}
	}
}

// Promise 14: the text has two lines, and one for each address, each with its end; it tells what the other functions tell.
func textHolds(t *testing.T, name string, d impl.Disk) {
	t.Helper()
	text := string(impl.DiskText(d))
	if text != slowText(d) {
		t.Fatalf("%s: DiskText is %q, want %q, of %s", name, text, slowText(d), diskText(d))
	}
	lines := strings.SplitAfter(text, "\n")
	if len(lines) != 2+len(d.Map.L)+1 || lines[len(lines)-1] != "" {
		t.Fatalf("%s: %d lines in %q", name, len(lines), text)
	}
	if strings.Count(lines[1], " ") != len(impl.Free(d)) {
		t.Fatalf("%s: %v are free, %q", name, impl.Free(d), text)
	}
	size, first := 0, -1
	for addr, line := range lines[2 : len(lines)-1] {
		is, mode, many := -1, -1, 0
		fmt.Sscanf(line, "has %d %d %d\n", &is, &mode, &many)
		size += many
		if line == fmt.Sprintf("broken %d\n", addr) && first < 0 {
			first = addr
		}
	}
	if size != impl.LiveBytes(d) || first != impl.Check(d) {
		t.Fatalf("%s: LiveBytes %d, Check %d, %q", name, impl.LiveBytes(d), impl.Check(d), text)
	}
}

func TestDiskTextOfAnyDisk(t *testing.T) {
	words := map[string]int{}
	all := append(rightDisks(), full(), wedged(), crashable(t), trio(), lone(), spoiltTrio())
	for seed := range uint64(400) {
		all = append(all, anyHeld(seed), crowdedOpen(crowdedHeld(seed), int(seed)), tightHeld(seed), drawn(seed))
	}
	for i, d := range all {
		textHolds(t, fmt.Sprint("disk ", i), d)
		for _, line := range strings.Split(string(impl.DiskText(d)), "\n") {
			if line == "free" {
				words["none is free"]++
			}
			words[strings.Split(line, " ")[0]]++
		}
	}
	for _, word := range []string{"epoch", "free", "broken", "empty", "has", "none is free"} {
		if words[word] < 100 {
			t.Fatalf("words %v", words)
		}
	}
	for _, s := range shapes() {
		d, _ := impl.Format(s.n, s.raws)
		textHolds(t, fmt.Sprint("shape ", s), d)
	}
}

func TestScriptsRefuse(t *testing.T) {
	for name, d := range wrongDisks() {
		for _, c := range []impl.Cmd{toWrite(0, noise(1)), toWrite(9, nil), toRead(0), toTrim(0), toFlush(), toSave(), toClean(), toCrash(), toCrash(true), {Kind: 7}, toWrite(0, sectorOf(1))} {
			wantNotDone(t, name, d, c)
			wantNoRun(t, name, d, []impl.Cmd{c})
		}
		wantNoRun(t, name+": no command", d, nil)
		wantNoRun(t, name+": many", d, slices.Repeat([]impl.Cmd{toRead(0)}, impl.MaxScript))
		wantNoRun(t, name+": too many", d, slices.Repeat([]impl.Cmd{toRead(0)}, impl.MaxScript+1))
		if text := impl.DiskText(d); len(text) != 0 {
			t.Fatalf("%s: DiskText is %q", name, text)
		}
	}
	for name, c := range wrongCmds() {
		for _, d := range []impl.Disk{newDisk(5, 8), plainDisk(), full(), wedged(), trio(), spoiltTrio(), {}} {
			wantNotDone(t, name, d, c)
			wantNoRun(t, name, d, []impl.Cmd{c})
		}
	}
}

// drawnCmd is of the kind that a letter stands for; now and then it is one that is refused.
func drawnCmd(n int, letter byte, pick []int) impl.Cmd {
	addr := pick[0] % n
	if pick[1]%25 == 0 {
		addr = []int{-1, n, n + 1, math.MinInt, math.MaxInt}[pick[2]%5]
	}
	switch letter {
	case 'w':
		block := noise(pick[3])
		if pick[3]%4 == 0 {
			block = someBlocks()[pick[2]%60]
		}
		if pick[1]%25 == 1 {
			block = sectorOf(1)[:[]int{0, 1, 63, 65, 128}[pick[2]%5]]
		}
		return toWrite(addr, block)
	case 'r':
		return toRead(addr)
	case 't':
		return toTrim(addr)
	case 'f':
		return toFlush()
	case 's':
		return toSave()
	case 'c':
		return toClean()
	}
	size := []int{0, 1, 2, 3, 5, 9, 59, 60}[pick[2]%8]
	return toCrash([][]bool{make([]bool, size), ones(size), mixed(size, uint64(pick[3])), mixed(size, uint64(pick[3])+7)}[pick[1]%4]...)
}

// drawnScript has commands of those kinds that the letters stand for, as often as each letter is there.
func drawnScript(n int, size int, letters string, seed uint64) []impl.Cmd {
	var l []impl.Cmd
	for i, kind := range picked(size, len(letters)-1, seed+70000) {
		l = append(l, drawnCmd(n, letters[kind], picked(4, 9999, 100*seed+uint64(i))))
	}
	return l
}

func TestDrawnCommandsAreRight(t *testing.T) {
	kinds := map[int]int{}
	for seed := range uint64(40) {
		for _, c := range drawnScript(1+int(seed)%16, 30, "wrtfscx", seed) {
			wantCmd(t, "drawn", c, true)
			kinds[c.Kind]++
		}
	}
	if len(kinds) != 7 {
		t.Fatalf("kinds %v", kinds)
	}
}

// readsOf are as many commands as there are addresses.
func readsOf(n int) []impl.Cmd {
	var l []impl.Cmd
	for addr := range n {
		l = append(l, toRead(addr))
	}
	return l
}

// saysWhatWasWritten holds what a script without crashes tells against what was written last, command by command, without the model.
func saysWhatWasWritten(t *testing.T, name string, d impl.Disk, l []impl.Cmd) {
	t.Helper()
	got, told, ok := impl.Run(d, l)
	now, fine := impl.All(d)
	if !ok || !fine || len(told) != len(l) || !impl.DiskOk(got) {
		t.Fatalf("%s: Run tells %v, %v, %s", name, ok, told, diskText(got))
	}
	for i, c := range l {
		there := c.Addr >= 0 && c.Addr < len(now)
		right := told[i].Code == impl.DkWell || told[i].Code == impl.DkSpace && c.Kind != impl.CmRead
		if !there || c.Kind == impl.CmWrite && len(c.Block) != impl.BlockBytes {
			right = told[i].Code == impl.DkRange
		}
		var block []byte
		switch {
		case told[i].Code != impl.DkWell:
		case c.Kind == impl.CmWrite:
			now = with(now, c.Addr, c.Block)
		case c.Kind == impl.CmTrim:
			now = with(now, c.Addr, noughts())
		case c.Kind == impl.CmRead:
			block = now[c.Addr]
		}
		if !right || !bytes.Equal(told[i].Block, block) {
			t.Fatalf("%s: the command %d of %+v tells %v, want %x, over %s", name, i, l, told[i], block, diskText(d))
		}
	}
	wantAll(t, name, got, now)
	again, told, ok := impl.Run(got, readsOf(len(now)))
	if !ok || !sameDisk(again, got) || !slices.EqualFunc(told, now, func(one impl.Told, block []byte) bool { return sameTold(one, impl.Told{Block: block}) }) {
		t.Fatalf("%s: reads tell %v of %s", name, told, diskText(got))
	}
}

// Promise 11: whatever commands there are but crashes, what is read of a sound disk is what was written last.
func TestScriptsOnSoundDisks(t *testing.T) {
	sound := 0
	for seed := range uint64(1200) {
		d := drawn(seed)
		if !isSound(d) {
			continue
		}
		sound++
		letters := []string{"wwwwrrtfsc", "wwwwwwwwwwrtc", "wrtfsc", "wwcfcsc", "wwwtttr"}[seed%5]
		l := drawnScript(len(d.Map.L), 1+int(seed*7)%impl.MaxScript, letters, seed)
		saysWhatWasWritten(t, fmt.Sprint("seed ", seed), d, l)
	}
	if sound < 600 {
		t.Fatalf("%d are sound", sound)
	}
}

// lifeOf takes a sound disk: behind a crash each address may have what it had when the map was saved, or what came since.
func lifeOf(d impl.Disk) *life {
	l := &life{disk: d}
	older := clonedDisk(d)
	older.Map, older.Open = d.Saved, impl.Pack{}
	packs := []impl.Pack{d.Open}
	for _, sector := range d.Chain {
		p, _ := slowPackRead(slowSettled(d.Raw).Sectors[sector])
		packs = append(packs, p)
	}
	for addr := range d.Map.L {
		now, _ := slowReadOf(d, addr)
		was, _ := slowReadOf(older, addr)
		l.now = append(l.now, now)
		l.may = append(l.may, [][]byte{was})
	}
	for _, p := range packs {
		for _, x := range p.Items {
			block, ok := slowDecode(x.Blob)
			if !ok {
				block = noughts()
			}
			l.may[x.Addr] = append(l.may[x.Addr], block)
		}
	}
	return l
}

// does is a step of a life by a command.
func (l *life) does(t *testing.T, name string, c impl.Cmd) *life {
	t.Helper()
	d, told := doHolds(t, name, l.disk, c)
	switch {
	case told.Code != impl.DkWell || c.Kind == impl.CmRead:
		wantAsItWas(t, name, l.disk, d, told.Code, told.Code)
	case c.Kind == impl.CmWrite:
		l.put(c.Addr, c.Block)
	case c.Kind == impl.CmTrim:
		l.put(c.Addr, noughts())
	case c.Kind == impl.CmFlush || c.Kind == impl.CmSave:
		l.settle()
	case c.Kind == impl.CmCrash:
		return l.found(t, name, d)
	}
	if c.Kind == impl.CmRead && told.Code == impl.DkWell && !bytes.Equal(told.Block, l.now[c.Addr]) {
		t.Fatalf("%s: %d has %x, want %x", name, c.Addr, told.Block, l.now[c.Addr])
	}
	l.disk = d
	wantAll(t, name, d, l.now)
	return l
}

// Promise 12, over whole scripts: behind a crash each address has what it had at the last command that flushed, or what was put there since.
func TestScriptsWithCrashes(t *testing.T) {
	done := map[string]int{}
	for seed := range uint64(260) {
		d := drawn(seed)
		if !isSound(d) {
			continue
		}
		l, was := lifeOf(d), d
		script := drawnScript(len(d.Map.L), impl.MaxScript, []string{"wwwwwwrtfscx", "wwwwwwwwwwwwwwwtcx", "wwrtfscxx"}[seed%3], seed)
		for i, c := range script {
			was = l.disk
			l = l.does(t, fmt.Sprint("seed ", seed, ", command ", i), c)
			if c.Kind == impl.CmCrash {
				done[actTold(was, l.disk, 0)]++
			}
		}
		got, told, ok := impl.Run(d, script)
		if !ok || len(told) != len(script) || !sameDisk(got, l.disk) {
			t.Fatalf("seed %d: Run tells %v, %v, %s; want %s", seed, ok, told, diskText(got), diskText(l.disk))
		}
	}
	if done["saved"] < 300 || done["as it was"] < 5 {
		t.Fatalf("crashes: %v", done)
	}
}

// Scripts on disks of many shapes, one behind the other: what one leaves the next one goes on with.
func TestScriptsOneBehindTheOther(t *testing.T) {
	for i, s := range []shape{{1, 6}, {3, 6}, {6, 7}, {9, 8}, {15, 10}, {16, 11}, {16, 24}} {
		l := newLife(s)
		for j, letters := range []string{"wwwwrt", "wwwwwwwwcx", "wwwwfx", "wwtsc", "wwwwwwwwwwwwwwwwx"} {
			before := l.disk
			script := drawnScript(s.n, impl.MaxScript, letters, uint64(500+10*i+j))
			for k, c := range script {
				l = l.does(t, fmt.Sprint("shape ", s, ", ", letters, ", command ", k), c)
			}
			if got, _, ok := impl.Run(before, script); !ok || !sameDisk(got, l.disk) {
				t.Fatalf("shape %v, %s: Run leaves %s", s, letters, diskText(got))
			}
			if !canFlush(l.disk) {
				l = newLife(s)
			}
		}
	}
}

// withTold has beside a disk all that is told, as a disk.
func withTold(d impl.Disk, all ...impl.Told) impl.Disk {
	for _, one := range all {
		d.Raw.Sectors = append(d.Raw.Sectors, one.Block)
		d.Order = 7*d.Order + one.Code
	}
	return d
}

// scriptDoes has what each function tells of a disk, as a disk.
func scriptDoes() map[string]func(d impl.Disk) impl.Disk {
	all := map[string]func(d impl.Disk) impl.Disk{
		"DiskText": func(d impl.Disk) impl.Disk { return asDisk(0, impl.DiskText(d)) },
	}
	for i, c := range append(rightCmds(), impl.Cmd{Kind: 7}) {
		all[fmt.Sprint("Do of ", i)] = func(d impl.Disk) impl.Disk {
			e, one := impl.Do(d, c)
			return withTold(e, one)
		}
	}
	for name, l := range map[string][]impl.Cmd{
		"none": nil, "reads": {toRead(0), toRead(0), toRead(4), toRead(0)}, "a wrong one": {toRead(0), {Kind: 7}},
		"all": rightCmds(), "refused": {toRead(-1), toTrim(-1)}, "changes": {toRead(1), toWrite(1, noise(1)), toRead(1), toClean(), toRead(1), toFlush(), toCrash(), toRead(1)},
	} {
		all["Run of "+name] = func(d impl.Disk) impl.Disk {
			e, told, ok := impl.Run(d, l)
			e.Epoch += 100000 * len(fmt.Sprint(ok))
			return withTold(e, told...)
		}
	}
	return all
}

func TestScriptArgumentsStay(t *testing.T) {
	all := append(rightDisks(), full(), wedged(), crashable(t), trio(has(4, 9)), lone(), wedgedLone(), spoiltTrio())
	for name, d := range wrongDisks() {
		if len(name)%9 == 0 {
			all = append(all, d)
		}
	}
	for seed := range uint64(12) {
		all = append(all, anyHeld(seed), crowdedOpen(crowdedHeld(seed), int(seed)), drawn(seed))
	}
	for name, do := range scriptDoes() {
		for _, d := range all {
			keepsDiskApart(t, name, d, do)
			allBytesAreApart(t, name, do(d))
		}
	}
}

// lastBlob is what was open last.
func lastBlob(d impl.Disk) []byte {
	if n := len(d.Open.Items); n > 0 {
		return d.Open.Items[n-1].Blob
	}
	return nil
}

// A block that is handed in stays as it is, and is no part of the answer, where it is read again, too.
func TestBlocksOfCommandsStay(t *testing.T) {
	for _, d := range []impl.Disk{newDisk(7, 9), full(), wedged()} {
		for _, block := range append(someBlocks()[:20], nil, noise(1), noise(1)[:63], sectorOf(1)[:65], sectorOf(1)[:129]) {
			for _, addr := range []int{-1, 0, 4} {
				l := func(b []byte) []impl.Cmd { return []impl.Cmd{toWrite(addr, b), toRead(addr)} }
				keepsBytesApart(t, "CmdOk", block, func(b []byte) []byte { impl.CmdOk(toWrite(addr, b)); return nil })
				keepsBytesApart(t, "Do", block, func(b []byte) []byte { got, _ := impl.Do(d, toWrite(addr, b)); return lastBlob(got) })
				keepsBytesApart(t, "Run", block, func(b []byte) []byte { got, _, _ := impl.Run(d, l(b)); return lastBlob(got) })
				keepsBytesApart(t, "Run, what is told", block, func(b []byte) []byte {
					_, told, _ := impl.Run(d, l(b))
					return slices.Concat(blobsOf(told)...)
				})
			}
		}
	}
	list, _ := fenced(noise(3)[:63])
	wantStays(t, "a byte in the spare room", opened(), toWrite(1, list), impl.DkRange)
	list, _ = fenced(noise(3))
	wantChanged(t, "more in the spare room", opened(), toWrite(1, list), opened(hasNoise(1, 3)))
}

func blobsOf(told []impl.Told) [][]byte {
	var all [][]byte
	for _, one := range told {
		all = append(all, one.Block)
	}
	return all
}

func TestFlagsOfCommandsStay(t *testing.T) {
	d := crashable(t)
	room := []bool{true, false, true, true, false, true}
	before := slices.Clone(room)
	for size := range len(room) + 1 {
		c := toCrash(room[:size]...)
		impl.CmdOk(c)
		got, told := impl.Do(d, c)
		impl.Run(d, []impl.Cmd{c, toRead(0), c})
		if !slices.Equal(room, before) {
			t.Fatalf("flags are written into: %v", room)
		}
		want, _ := slowDo(d, toCrash(slices.Clone(room[:size])...))
		if told.Code != impl.DkWell || !sameDisk(got, want) {
			t.Fatalf("%d flags, others behind them: %v, %s", size, told, diskText(got))
		}
	}
}

// sameCmds looks at all parts, those behind the lengths, too.
func sameCmds(a []impl.Cmd, b []impl.Cmd) bool {
	return slices.EqualFunc(a, b, func(c impl.Cmd, e impl.Cmd) bool {
		return c.Kind == e.Kind && c.Addr == e.Addr && bytes.Equal(c.Block[:cap(c.Block)], e.Block) && slices.Equal(c.Keep[:cap(c.Keep)], e.Keep)
	})
}

func TestCommandsOfARunStay(t *testing.T) {
	var room, before []impl.Cmd
	for _, c := range append(rightCmds(), impl.Cmd{Kind: 9}, toWrite(3, noise(3))) {
		c.Block, _ = fenced(c.Block)
		c.Keep = append(slices.Clone(c.Keep), true, false, true)[:len(c.Keep)]
		room = append(room, c)
		before = append(before, impl.Cmd{Kind: c.Kind, Addr: c.Addr, Block: bytes.Clone(c.Block[:cap(c.Block)]), Keep: slices.Clone(c.Keep[:cap(c.Keep)])})
	}
	for _, d := range []impl.Disk{newDisk(5, 8), crashable(t), full(), wedged(), spoiltTrio()} {
		for size := range len(room) + 1 {
			got, told, ok := impl.Run(d, room[:size])
			want := clonedDisk(got)
			spoilDisk(got)
			for _, one := range told {
				spoil(one.Block)
			}
			if !sameCmds(room, before) {
				t.Fatalf("Run of %d commands writes into them, or behind them", size)
			}
			again, _, fine := impl.Run(d, room[:size])
			if ok != fine || ok != (size <= len(rightCmds())) || !sameDisk(again, want) {
				t.Fatalf("Run of %d commands again: %v, %s, want %v, %s", size, fine, diskText(again), ok, diskText(want))
			}
		}
	}
}

// One list at several places of an argument: the answer has one for each, where it is the disk as it was, too.
func TestListsOfScriptsComeApart(t *testing.T) {
	d, closed, mountable := oneList(0, 2, 3), oneList(0, 2, 3), oneList(0, 2, 3)
	closed.Epoch, closed.Chain = impl.MaxEpoch, []int{2, 4, 5, 6, 7, 8}
	super, one := slowSuperBytes(7, d.Map), mountable.Raw.Sectors[2]
	mountable.Raw.Sectors[0], mountable.Raw.Sectors[1] = super, super
	mountable.Raw.Pending = []impl.Pend{{At: 3, Data: one}, {At: 0, Data: super}, {At: 5, Data: one}}
	codes := map[int]int{}
	for _, x := range []impl.Disk{d, closed, mountable} {
		before := clonedDisk(x)
		_, told := impl.Do(x, toCrash(true))
		codes[told.Code]++
		for name, do := range scriptDoes() {
			got := do(x)
			allBytesAreApart(t, name, got)
			placesAreApart(t, name, got)
			spoilDisk(got)
			if !sameDisk(x, before) {
				t.Fatalf("%s: an argument changes with an answer", name)
			}
		}
	}
	if codes[impl.DkWell] != 1 || codes[impl.DkCorrupt] != 2 {
		t.Fatalf("codes %v", codes)
	}
}

func TestScriptsKeepNothing(t *testing.T) {
	keepNothing(t, scriptDoes(), crashable(t), full(), trio(), wedged(), spoiltTrio(), plainDisk())
}
