package tests

import (
	"bytes"
	"fmt"
	"maps"
	"math"
	"slices"
	"testing"

	"loop.example/g00528/impl"
)

func noughts() []byte {
	return make([]byte, impl.BlockBytes)
}

// noise is a block that no mode makes shorter.
func noise(seed int) []byte {
	return sectorOf(seed)[:impl.BlockBytes]
}

// runBlock is the block of runOf.
func runBlock(value int) []byte {
	return bytes.Repeat([]byte{byte(value)}, impl.BlockBytes)
}

// hasNoise is an Item as Write makes it of noise.
func hasNoise(addr int, seed int) impl.Item {
	return impl.Item{Addr: addr, Blob: slices.Concat([]byte{impl.MdRaw}, noise(seed))}
}

// hasSize is an Item whose Blob has just this size.
func hasSize(addr int, size int) impl.Item {
	return impl.Item{Addr: addr, Blob: blobOf(size)}
}

func slowEncode(block []byte) ([]byte, bool) {
	if len(block) != 64 {
		return nil, false
	}
	var best []byte
	for mode := impl.MdRaw; mode <= impl.MdFse; mode++ {
		blob, ok := slowPacked(block, mode)
		if ok && (best == nil || len(blob) < len(best)) {
			best = blob
		}
	}
	return best, true
}

// slowHas takes what is right, and tells the Blob of an address; false, where it is broken.
func slowHas(d impl.Disk, addr int) ([]byte, bool) {
	for _, x := range d.Open.Items {
		if x.Addr == addr {
			return x.Blob, true
		}
	}
	w := d.Map.L[addr]
	if w.Sector == 0 {
		return nil, true
	}
	p, ok := slowPackRead(slowSettled(d.Raw).Sectors[w.Sector])
	for i, x := range p.Items {
		if ok && i == w.Index && x.Addr == addr && len(x.Blob) > 0 {
			return x.Blob, true
		}
	}
	return nil, false
}

func slowReadOf(d impl.Disk, addr int) ([]byte, int) {
	if !slowDiskOk(d) {
		return nil, impl.DkForm
	}
	if addr < 0 || addr >= len(d.Map.L) {
		return nil, impl.DkRange
	}
	blob, ok := slowHas(d, addr)
	if !ok {
		return nil, impl.DkCorrupt
	}
	if len(blob) == 0 {
		return noughts(), impl.DkWell
	}
	block, _ := slowDecode(blob)
	return block, impl.DkWell
}

// slowPut takes what is right, and an address that is there.
func slowPut(d impl.Disk, x impl.Item) (impl.Disk, int) {
	return slowPutKeeping(d, x, 1)
}

func slowPutKeeping(d impl.Disk, x impl.Item, back int) (impl.Disk, int) {
	c := clonedDisk(d)
	more, room := slowAdd(d.Open, x)
	if !room {
		sealed, ok := slowSealOrSave(d, back)
		if !ok {
			return d, impl.DkSpace
		}
		c, more = sealed, packOf(0, 0, x)
	}
	c.Open = more
	return c, impl.DkWell
}

func slowWriteOf(d impl.Disk, addr int, block []byte) (impl.Disk, int) {
	if !slowDiskOk(d) {
		return impl.Disk{}, impl.DkForm
	}
	blob, ok := slowEncode(block)
	if addr < 0 || addr >= len(d.Map.L) || !ok {
		return d, impl.DkRange
	}
	return slowPut(d, impl.Item{Addr: addr, Blob: blob})
}

func slowTrimOf(d impl.Disk, addr int) (impl.Disk, int) {
	if !slowDiskOk(d) {
		return impl.Disk{}, impl.DkForm
	}
	if addr < 0 || addr >= len(d.Map.L) {
		return d, impl.DkRange
	}
	return slowPut(d, none(addr))
}

func slowFlushOf(d impl.Disk) (impl.Disk, int) {
	if !slowDiskOk(d) {
		return impl.Disk{}, impl.DkForm
	}
	c, ok := slowFlush(d)
	if !ok {
		return d, impl.DkSpace
	}
	return c, impl.DkWell
}

func slowSaveOf(d impl.Disk) (impl.Disk, int) {
	c, code := slowFlushOf(d)
	if code != impl.DkWell {
		return c, code
	}
	c, ok := slowSave(c)
	if !ok {
		return d, impl.DkSpace
	}
	return c, impl.DkWell
}

// sameAnswer holds a disk and a code against those of the model.
func sameAnswer(t *testing.T, name string, d impl.Disk, got impl.Disk, code int, want impl.Disk, wantCode int) (impl.Disk, int) {
	t.Helper()
	if code != wantCode || !sameDisk(got, want) {
		t.Fatalf("%s of %s: code %d, %s; want code %d, %s", name, diskText(d), code, diskText(got), wantCode, diskText(want))
	}
	if code != impl.DkForm && !impl.DiskOk(got) {
		t.Fatalf("%s of %s: not DiskOk: %s", name, diskText(d), diskText(got))
	}
	return got, code
}

func writeHolds(t *testing.T, name string, d impl.Disk, addr int, block []byte) (impl.Disk, int) {
	t.Helper()
	want, wantCode := slowWriteOf(d, addr, block)
	got, code := impl.Write(d, addr, block)
	return sameAnswer(t, fmt.Sprint(name, ": Write at ", addr), d, got, code, want, wantCode)
}

func trimHolds(t *testing.T, name string, d impl.Disk, addr int) (impl.Disk, int) {
	t.Helper()
	want, wantCode := slowTrimOf(d, addr)
	got, code := impl.Trim(d, addr)
	return sameAnswer(t, fmt.Sprint(name, ": Trim at ", addr), d, got, code, want, wantCode)
}

func flushHolds(t *testing.T, name string, d impl.Disk) (impl.Disk, int) {
	t.Helper()
	want, wantCode := slowFlushOf(d)
	got, code := impl.Flush(d)
	return sameAnswer(t, name+": Flush", d, got, code, want, wantCode)
}

func saveHolds(t *testing.T, name string, d impl.Disk) (impl.Disk, int) {
	t.Helper()
	want, wantCode := slowSaveOf(d)
	got, code := impl.Save(d)
	return sameAnswer(t, name+": Save", d, got, code, want, wantCode)
}

func wantBlockAt(t *testing.T, name string, d impl.Disk, addr int, want []byte) {
	t.Helper()
	b, code := impl.Read(d, addr)
	if code != impl.DkWell || !bytes.Equal(b, want) || len(b) != impl.BlockBytes {
		t.Fatalf("%s: Read at %d: %x, code %d, want %x, of %s", name, addr, b, code, want, diskText(d))
	}
}

func wantNotRead(t *testing.T, name string, d impl.Disk, addr int, want int) {
	t.Helper()
	b, code := impl.Read(d, addr)
	if code != want || len(b) != 0 {
		t.Fatalf("%s: Read at %d: %x, code %d, want nothing and %d, of %s", name, addr, b, code, want, diskText(d))
	}
}

func wantAll(t *testing.T, name string, d impl.Disk, want [][]byte) {
	t.Helper()
	l, ok := impl.All(d)
	if !ok || !slices.EqualFunc(l, want, bytes.Equal) {
		t.Fatalf("%s: All is %x, %v, want %x, of %s", name, l, ok, want, diskText(d))
	}
	for addr, block := range want {
		wantBlockAt(t, name, d, addr, block)
	}
	for _, addr := range []int{math.MinInt, -1, len(want), len(want) + 1, 256, math.MaxInt} {
		wantNotRead(t, name, d, addr, impl.DkRange)
	}
}

func wantNotAll(t *testing.T, name string, d impl.Disk) {
	t.Helper()
	if l, ok := impl.All(d); ok || len(l) != 0 {
		t.Fatalf("%s: All is %x, %v, want nothing and false, of %s", name, l, ok, diskText(d))
	}
}

// readHolds holds Read of each address, and All, against the model; it tells how often each code was told.
func readHolds(t *testing.T, name string, d impl.Disk) map[int]int {
	t.Helper()
	codes := map[int]int{}
	all := [][]byte{}
	for addr := range d.Map.L {
		want, code := slowReadOf(d, addr)
		if code == impl.DkWell {
			wantBlockAt(t, name, d, addr, want)
		} else {
			wantNotRead(t, name, d, addr, code)
		}
		codes[code]++
		all = append(all, want)
	}
	if codes[impl.DkWell] == len(all) && len(all) > 0 {
		wantAll(t, name, d, all)
	} else {
		wantNotAll(t, name, d)
	}
	return codes
}

// unsound tells what promise 10 asks of a sound disk and this one has not, but that no address is broken, and that it can be unmounted; nothing, if it has all of that.
func unsound(d impl.Disk) string {
	epoch, m, ok := slowNewest(d.Raw.Sectors[0], d.Raw.Sectors[1])
	if !ok || epoch != d.Epoch || !sameMap(m, d.Saved) {
		return fmt.Sprintf("the newest saved map is %d, %v", epoch, m)
	}
	read := slowSettled(d.Raw).Sectors
	for sector := 2; sector < len(read); sector++ {
		if slices.Contains(d.Chain, sector) {
			continue
		}
		for _, b := range [][]byte{d.Raw.Sectors[sector], read[sector]} {
			if p, ok := slowPackRead(b); ok && p.Epoch >= d.Epoch {
				return fmt.Sprintf("the sector %d is a pack of %d, and not in Chain", sector, p.Epoch)
			}
		}
	}
	return ""
}

// soundBut holds what promise 10 asks of a sound disk, but that it can be unmounted.
func soundBut(t *testing.T, name string, d impl.Disk, want [][]byte) {
	t.Helper()
	wantAll(t, name, d, want)
	if why := unsound(d); why != "" {
		t.Fatalf("%s: %s, of %s", name, why, diskText(d))
	}
}

// soundHolds unmounts the disk, and mounts it again, too.
func soundHolds(t *testing.T, name string, d impl.Disk, want [][]byte) {
	t.Helper()
	soundBut(t, name, d, want)
	r, code := impl.Unmount(d)
	if code != impl.DkWell {
		t.Fatalf("%s: Unmount tells %d of %s", name, code, diskText(d))
	}
	again, code := impl.Mount(r)
	if code != impl.DkWell {
		t.Fatalf("%s: Mount tells %d behind Unmount of %s", name, code, diskText(d))
	}
	wantAll(t, name+", mounted again", again, want)
}

func canFlush(d impl.Disk) bool {
	_, ok := slowFlush(d)
	return ok
}

// with is a list with another block at an address.
func with(l [][]byte, addr int, block []byte) [][]byte {
	c := slices.Clone(l)
	c[addr] = block
	return c
}

func manyNoughts(n int) [][]byte {
	return slices.Repeat([][]byte{noughts()}, n)
}

func TestNoiseIsNotShorter(t *testing.T) {
	for seed := range 400 {
		blob, ok := slowEncode(noise(seed))
		if !ok || !bytes.Equal(blob, hasNoise(0, seed).Blob) {
			t.Fatalf("noise of %d has a blob of %d bytes", seed, len(blob))
		}
	}
}

// Promise 9: each address of each shape is written once, the first one first, the last one first, and from the middle on; all is flushed.
func TestRoomForAllAddresses(t *testing.T) {
	for _, s := range shapes() {
		for turn := range 3 {
			name := fmt.Sprint("shape ", s, ", turn ", turn)
			d, _ := impl.Format(s.n, s.raws)
			want := manyNoughts(s.n)
			wantAll(t, name+", new", d, want)
			for i := range s.n {
				addr := []int{i, s.n - 1 - i, (i + s.n/2) % s.n}[turn]
				code := 0
				if d, code = writeHolds(t, name, d, addr, noise(i+20*turn)); code != impl.DkWell {
					t.Fatalf("%s: Write at %d tells %d", name, addr, code)
				}
				want[addr] = noise(i + 20*turn)
				wantAll(t, name, d, want)
			}
			flushed, code := flushHolds(t, name, d)
			if code != impl.DkWell || len(flushed.Open.Items) != 0 || len(flushed.Raw.Pending) != 0 || flushed.Epoch != 1 {
				t.Fatalf("%s: Flush tells %d, %s", name, code, diskText(flushed))
			}
			soundHolds(t, name, d, want)
			soundHolds(t, name+", flushed", flushed, want)
			r, _ := impl.CrashDisk(flushed, nil)
			found, code := impl.Mount(r)
			if code != impl.DkWell {
				t.Fatalf("%s: Mount behind a crash tells %d", name, code)
			}
			wantAll(t, name+", behind a crash", found, want)
		}
	}
}

// There is room whatever is written: blobs of each size, and nothing, one shape after the other.
func TestRoomForAnyBlocks(t *testing.T) {
	blocks := append(someBlocks(), nil)
	for i, s := range shapes() {
		name := fmt.Sprint("shape ", s)
		d, _ := impl.Format(s.n, s.raws)
		want, code := manyNoughts(s.n), 0
		for addr, kind := range picked(s.n, len(blocks)-1, uint64(i)) {
			if blocks[kind] == nil {
				d, code = trimHolds(t, name, d, addr)
			} else {
				d, code = writeHolds(t, name, d, addr, blocks[kind])
				want[addr] = blocks[kind]
			}
			if code != impl.DkWell {
				t.Fatalf("%s: code %d at %d", name, code, addr)
			}
		}
		soundHolds(t, name, d, want)
		if d, code = flushHolds(t, name, d); code != impl.DkWell {
			t.Fatalf("%s: Flush tells %d", name, code)
		}
		soundHolds(t, name+", flushed", d, want)
	}
}

// packed has three addresses in the sector 3, by an old pack with an Item of one more.
func packed(items ...impl.Item) impl.Disk {
	d := newDisk(5, 8)
	d.Map.L[0], d.Map.L[1], d.Map.L[4] = in(3, 2), in(3, 0), in(3, 1)
	if len(items) > 0 {
		d.Raw.Sectors[3] = slowPackBytes(packOf(1, 1, items...))
	}
	return d
}

func TestReadByHand(t *testing.T) {
	d := packed(has(1, 11), hasNoise(4, 4), has(0, 10), has(2, 12))
	want := [][]byte{runBlock(10), runBlock(11), noughts(), noughts(), noise(4)}
	wantAll(t, "at their places; one that is nowhere has an Item there", d, want)
	d.Open = packOf(0, 0, has(1, 21))
	wantAll(t, "open, and at its place", d, with(want, 1, runBlock(21)))
	d.Open = packOf(0, 0, has(2, 22), hasNoise(3, 23))
	wantAll(t, "open, and nowhere", d, with(with(want, 2, runBlock(22)), 3, noise(23)))
	d.Open = packOf(0, 0, none(1), none(2), has(0, 30))
	wantAll(t, "open with an empty Blob", d, with(with(want, 1, noughts()), 0, runBlock(30)))
	d.Open = packOf(0, 0, impl.Item{Addr: 4, Blob: []byte{}})
	wantAll(t, "open with an empty Blob that is a list", d, with(want, 4, noughts()))
	d.Open = impl.Pack{}
	d.Saved, d.Chain, d.Order = together(5, 6), []int{7, 3}, 9
	wantAll(t, "whatever Saved and Chain tell", d, want)
	for _, n := range []int{0, 1, impl.MaxEpoch} {
		d.Raw.Sectors[3] = slowPackBytes(packOf(n, impl.MaxEpoch-n, has(1, 11), hasNoise(4, 4), has(0, 10)))
		wantAll(t, "whatever Epoch and Order the pack has", d, want)
		d.Epoch = n
		wantAll(t, "whatever Epoch the disk has", d, want)
	}
	for _, mode := range []string{"a", "the cat and the dog ", string(lowered()), string(deep())} {
		blob, _ := slowEncode(blockOf(mode))
		d.Raw.Sectors[3] = slowPackBytes(packOf(1, 1, impl.Item{Addr: 1, Blob: blob}, hasNoise(4, 4), has(0, 10)))
		wantAll(t, "a blob of each mode", d, with(want, 1, blockOf(mode)))
	}
}

func TestReadWhatWaits(t *testing.T) {
	d := packed(has(1, 11), has(4, 14), has(0, 10))
	want := [][]byte{runBlock(10), runBlock(11), noughts(), noughts(), runBlock(14)}
	d.Raw = waiting(d.Raw, 5, slowPackBytes(packOf(1, 2, has(1, 1))))
	wantAll(t, "one waits for another sector", d, want)
	d.Raw = waiting(d.Raw, 3, slowPackBytes(packOf(1, 2, has(1, 31), hasNoise(4, 34), has(0, 30))))
	newer := [][]byte{runBlock(30), runBlock(31), noughts(), noughts(), noise(34)}
	wantAll(t, "one waits for this sector", d, newer)
	d.Raw.Sectors[3] = sectorOf(3)
	wantAll(t, "the sector itself is no pack", d, newer)
	d.Raw = waiting(d.Raw, 3, slowPackBytes(packOf(1, 2, has(1, 41), has(4, 44), has(0, 40))))
	d.Raw = waiting(d.Raw, 2, sectorOf(2))
	wantAll(t, "the last one of two counts", d, [][]byte{runBlock(40), runBlock(41), noughts(), noughts(), runBlock(44)})
	d.Open = packOf(0, 0, has(4, 54))
	wantAll(t, "open", d, [][]byte{runBlock(40), runBlock(41), noughts(), noughts(), runBlock(54)})
	d.Raw = waiting(d.Raw, 3, sectorOf(9))
	wantNotRead(t, "what waits last is no pack", d, 1, impl.DkCorrupt)
	wantBlockAt(t, "what waits last is no pack, open", d, 4, runBlock(54))
}

// spoilt is what the sector of packed may have, and which of the addresses 0, 1 and 4 are broken then.
type spoilt struct {
	sector []byte
	broken []int
}

func spoiltSectors() map[string]spoilt {
	right := slowPackBytes(packOf(1, 1, has(1, 11), has(4, 14), has(0, 10)))
	tail := bytes.Clone(right)
	tail[impl.RawBytes-1] = 1
	blob := bytes.Clone(right)
	blob[12] = 9
	return map[string]spoilt{
		"noughts":                           {make([]byte, impl.RawBytes), []int{0, 1, 4}},
		"any bytes":                         {sectorOf(8), []int{0, 1, 4}},
		"a saved map":                       {slowSuperBytes(1, nowhere(5)), []int{0, 1, 4}},
		"a byte behind the pack":            {tail, []int{0, 1, 4}},
		"a wrong Blob":                      {blob, []int{0, 1, 4}},
		"a pack without Items":              {slowPackBytes(packOf(1, 1)), []int{0, 1, 4}},
		"one Item":                          {slowPackBytes(packOf(1, 1, has(1, 11))), []int{0, 4}},
		"two Items":                         {slowPackBytes(packOf(1, 1, has(1, 11), has(4, 14))), []int{0}},
		"another Addr":                      {slowPackBytes(packOf(1, 1, has(1, 11), has(3, 14), has(0, 10))), []int{4}},
		"an Addr that the disk has not":     {slowPackBytes(packOf(1, 1, has(15, 11), has(4, 14), has(0, 10))), []int{1}},
		"two in the other's stead":          {slowPackBytes(packOf(1, 1, has(4, 11), has(1, 14), has(0, 10))), []int{1, 4}},
		"an Item ahead of them":             {slowPackBytes(packOf(1, 1, none(2), has(1, 11), has(4, 14), has(0, 10))), []int{0, 1, 4}},
		"an empty Blob":                     {slowPackBytes(packOf(1, 1, has(1, 11), none(4), has(0, 10))), []int{4}},
		"the first Blob empty":              {slowPackBytes(packOf(1, 1, none(1), has(4, 14), has(0, 10))), []int{1}},
		"another Addr and an empty Blob":    {slowPackBytes(packOf(1, 1, has(1, 11), has(4, 14), none(3))), []int{0}},
		"all Blobs empty":                   {slowPackBytes(packOf(1, 1, none(1), none(4), none(0))), []int{0, 1, 4}},
		"its Item is there, at another one": {slowPackBytes(packOf(1, 1, has(1, 11), has(3, 14), has(2, 10), has(0, 9), has(4, 8))), []int{0, 4}},
	}
}

func TestReadOfBrokenAddresses(t *testing.T) {
	for name, row := range spoiltSectors() {
		stands := packed(has(1, 11), has(4, 14), has(0, 10))
		waits := clonedDisk(stands)
		stands.Raw.Sectors[3] = row.sector
		waits.Raw = waiting(waits.Raw, 3, row.sector)
		for _, d := range []impl.Disk{stands, waits} {
			for addr, block := range [][]byte{runBlock(10), runBlock(11), noughts(), noughts(), runBlock(14)} {
				if slices.Contains(row.broken, addr) {
					wantNotRead(t, name, d, addr, impl.DkCorrupt)
				} else {
					wantBlockAt(t, name, d, addr, block)
				}
			}
			wantNotAll(t, name, d)
			readHolds(t, name, d)
			for _, addr := range row.broken {
				d.Open.Items = append(d.Open.Items, has(addr, 50+addr))
			}
			readHolds(t, name+", all of them open", d)
			if _, ok := impl.All(d); !ok {
				t.Fatalf("%s: All refuses what is open", name)
			}
			d.Open.Items = d.Open.Items[1:]
			wantNotAll(t, name+", all of them open but one", d)
		}
	}
}

// One address of all that there may be is broken, or none.
func TestAllWithOneBroken(t *testing.T) {
	for _, n := range []int{1, 2, 3, 9, impl.MaxAddr} {
		d := newDisk(n, 24)
		want := [][]byte{}
		for addr := range n {
			d.Map.L[addr] = in(2+addr, 0)
			d.Raw.Sectors[2+addr] = slowPackBytes(packOf(1, 1+addr, hasNoise(addr, addr)))
			want = append(want, noise(addr))
		}
		wantAll(t, "none is broken", d, want)
		for addr := range n {
			spoilt := clonedDisk(d)
			spoilt.Raw.Sectors[2+addr][0]++
			wantNotAll(t, fmt.Sprint(addr, " of ", n, " is broken"), spoilt)
			wantNotRead(t, "the broken one", spoilt, addr, impl.DkCorrupt)
			spoilt.Open = packOf(0, 0, none(addr))
			wantAll(t, "it is trimmed", spoilt, with(want, addr, noughts()))
		}
	}
}

// anyHeld is any disk whose sectors mostly have what its map tells; a few are spoilt, some wait.
func anyHeld(seed uint64) impl.Disk {
	d := anyDisk(seed)
	d.Raw.Pending = d.Raw.Pending[:min(len(d.Raw.Pending), 20)]
	kinds := picked(len(d.Raw.Sectors), 9, seed+8000)
	for sector := 2; sector < len(d.Raw.Sectors); sector++ {
		p := packOf(1, sector)
		others := []int{}
		for addr := range impl.MaxAddr {
			if addr >= len(d.Map.L) || d.Map.L[addr].Sector != sector {
				others = append(others, addr)
			}
		}
		for i := range impl.MaxAddr {
			at := slices.Index(d.Map.L, in(sector, i))
			if at < 0 {
				at, others = others[0], others[1:]
			}
			p.Items = append(p.Items, has(at, int(seed)+sector+at))
		}
		switch kinds[sector] {
		case 0:
			p.Items = p.Items[:kinds[sector-1]]
		case 1:
			p.Items[3], p.Items[7] = p.Items[7], p.Items[3]
		case 2:
			p.Items[5].Blob = nil
		case 3:
			continue
		}
		if kinds[sector] > 6 {
			d.Raw.Pending = append(d.Raw.Pending, impl.Pend{At: sector, Data: slowPackBytes(p)})
		} else {
			d.Raw.Sectors[sector] = slowPackBytes(p)
		}
	}
	return d
}

func TestReadOfAnyDisk(t *testing.T) {
	codes, whole := map[int]int{}, 0
	for seed := range uint64(1200) {
		d := anyHeld(seed)
		now := readHolds(t, fmt.Sprint("seed ", seed), d)
		for code, many := range now {
			codes[code] += many
		}
		if now[impl.DkCorrupt] == 0 {
			whole++
		}
	}
	if codes[impl.DkWell] < 2000 || codes[impl.DkCorrupt] < 1000 || whole < 100 {
		t.Fatalf("codes %v, %d have no broken address", codes, whole)
	}
}

func TestReadRefuses(t *testing.T) {
	for name, d := range wrongDisks() {
		for _, addr := range []int{math.MinInt, -1, 0, 4, 5, 16, math.MaxInt} {
			wantNotRead(t, name, d, addr, impl.DkForm)
		}
		wantNotAll(t, name, d)
	}
	for _, s := range []shape{{1, 6}, {3, 6}, {6, 7}, {16, 11}, {1, 24}, {16, 24}} {
		d := newDisk(s.n, s.raws)
		wantAll(t, "new", d, manyNoughts(s.n))
		wantBlockAt(t, "the first address", d, 0, noughts())
		wantBlockAt(t, "the last address", d, s.n-1, noughts())
		wantNotRead(t, "one behind it", d, s.n, impl.DkRange)
		wantNotRead(t, "one ahead of the first", d, -1, impl.DkRange)
	}
}

// opened is a disk with these Items in Open, seven addresses over nine sectors.
func opened(items ...impl.Item) impl.Disk {
	d := newDisk(7, 9)
	d.Open = packOf(0, 0, items...)
	return d
}

// wantOpen holds a disk that differs in Open alone.
func wantOpen(t *testing.T, name string, d impl.Disk, got impl.Disk, code int, items ...impl.Item) {
	t.Helper()
	want := clonedDisk(d)
	want.Open = packOf(0, 0, items...)
	wantDisk(t, name, got, code, want)
}

func TestWriteWithRoom(t *testing.T) {
	d := opened()
	got, code := impl.Write(d, 3, noise(1))
	wantOpen(t, "the first one", d, got, code, hasNoise(3, 1))
	got, code = impl.Write(d, 0, noughts())
	wantOpen(t, "noughts are a block", d, got, code, has(0, 0))
	got, code = impl.Trim(d, 6)
	wantOpen(t, "the first one trimmed", d, got, code, none(6))
	d = opened(has(2, 1), none(4), hasNoise(0, 2))
	got, code = impl.Write(d, 6, runBlock(9))
	wantOpen(t, "behind the others", d, got, code, has(2, 1), none(4), hasNoise(0, 2), has(6, 9))
	got, code = impl.Trim(d, 6)
	wantOpen(t, "trimmed, behind the others", d, got, code, has(2, 1), none(4), hasNoise(0, 2), none(6))
	got, code = impl.Write(d, 2, noise(7))
	wantOpen(t, "in place of the first one", d, got, code, none(4), hasNoise(0, 2), hasNoise(2, 7))
	got, code = impl.Write(d, 4, noise(7))
	wantOpen(t, "in place of one that is trimmed", d, got, code, has(2, 1), hasNoise(0, 2), hasNoise(4, 7))
	got, code = impl.Write(d, 0, noise(2))
	wantOpen(t, "the last one again", d, got, code, has(2, 1), none(4), hasNoise(0, 2))
	got, code = impl.Trim(d, 2)
	wantOpen(t, "trimmed in place of one", d, got, code, none(4), hasNoise(0, 2), none(2))
	got, code = impl.Trim(d, 4)
	wantOpen(t, "trimmed again", d, got, code, has(2, 1), hasNoise(0, 2), none(4))
	d.Map = together(7, 4)
	got, code = impl.Write(d, 5, runBlock(1))
	wantOpen(t, "somebody is at a place", d, got, code, has(2, 1), none(4), hasNoise(0, 2), has(5, 1))
	d.Epoch, d.Order = impl.MaxEpoch, impl.MaxEpoch
	d.Chain = []int{2, 3, 4, 5, 6, 7, 8}
	got, code = impl.Write(d, 5, runBlock(1))
	wantOpen(t, "nothing is free, nothing is left", d, got, code, has(2, 1), none(4), hasNoise(0, 2), has(5, 1))
	d.Raw = rawOf(9, alike(impl.MaxPending, 3)...)
	got, code = impl.Trim(d, 5)
	wantOpen(t, "MaxPending wait", d, got, code, has(2, 1), none(4), hasNoise(0, 2), none(5))
}

// sealedThen is what a write leaves that seals at a sector, without a save.
func sealedThen(d impl.Disk, at int, x impl.Item) impl.Disk {
	c := clonedDisk(d)
	p := packOf(d.Epoch, d.Order+1, d.Open.Items...)
	c.Order++
	c.Raw = slowWrite(c.Raw, at, slowPackBytes(p))
	c.Map, _ = slowApply(d.Map, at, p)
	c.Chain = append(c.Chain, at)
	c.Open = packOf(0, 0, x)
	return c
}

// savedSealed is what a write leaves that saves first.
func savedSealed(d impl.Disk, at int, x impl.Item) impl.Disk {
	c := clonedDisk(d)
	c.Epoch, c.Order, c.Saved, c.Chain = d.Epoch+1, 0, mapOf(slices.Clone(d.Map.L)...), nil
	c.Raw = slowSettled(c.Raw)
	c.Raw.Sectors[c.Epoch%2] = slowSuperBytes(c.Epoch, c.Map)
	return sealedThen(c, at, x)
}

// wantPut writes and trims: both find no room for theirs in Open, and leave what want makes of their Item.
func wantPut(t *testing.T, name string, d impl.Disk, addr int, want func(d impl.Disk, x impl.Item) impl.Disk) {
	t.Helper()
	got, code := impl.Write(d, addr, noise(70))
	wantDisk(t, name+": Write of "+diskText(d), got, code, want(d, hasNoise(addr, 70)))
	writeHolds(t, name, d, addr, noise(70))
	got, code = impl.Trim(d, addr)
	wantDisk(t, name+": Trim of "+diskText(d), got, code, want(d, none(addr)))
	trimHolds(t, name, d, addr)
}

func sealsAt(sector int) func(d impl.Disk, x impl.Item) impl.Disk {
	return func(d impl.Disk, x impl.Item) impl.Disk { return sealedThen(d, sector, x) }
}

func savesAndSealsAt(sector int) func(d impl.Disk, x impl.Item) impl.Disk {
	return func(d impl.Disk, x impl.Item) impl.Disk { return savedSealed(d, sector, x) }
}

// wantNotPut tells of both that they leave the disk as it was.
func wantNotPut(t *testing.T, name string, d impl.Disk, addr int) {
	t.Helper()
	for _, block := range [][]byte{noise(70), blockOf("the cat and the dog, the cat and a dog: the ca")} {
		got, code := impl.Write(d, addr, block)
		wantAsItWas(t, name+": Write", d, got, code, impl.DkSpace)
		writeHolds(t, name, d, addr, block)
	}
	got, code := impl.Trim(d, addr)
	wantAsItWas(t, name+": Trim", d, got, code, impl.DkSpace)
	trimHolds(t, name, d, addr)
}

func wantAsItWas(t *testing.T, name string, d impl.Disk, got impl.Disk, code int, want int) {
	t.Helper()
	if code != want || !sameDisk(got, d) {
		t.Fatalf("%s: code %d, %s; want code %d, %s", name, code, diskText(got), want, diskText(d))
	}
}

// full has no room in Open even for who trims: 255 bytes, of the addresses 0 to 3.
func full() impl.Disk {
	return opened(hasNoise(0, 1), hasNoise(1, 2), hasNoise(2, 3), hasSize(3, 46))
}

// What just fills the pack has room; a byte more has none.
func TestWriteWhereOpenIsNearlyFull(t *testing.T) {
	d := opened(hasNoise(0, 1), hasNoise(1, 2), hasSize(2, 47))
	got, code := impl.Write(d, 3, noise(3))
	wantOpen(t, "it just has room", d, got, code, hasNoise(0, 1), hasNoise(1, 2), hasSize(2, 47), hasNoise(3, 3))
	d = opened(hasNoise(0, 1), hasNoise(1, 2), hasSize(2, 48))
	got, code = impl.Write(d, 3, noise(3))
	wantDisk(t, "a byte too many", got, code, sealedThen(d, 2, hasNoise(3, 3)))
	d = opened(hasNoise(0, 1), hasNoise(1, 2), hasNoise(2, 3), hasSize(3, 45))
	got, code = impl.Trim(d, 4)
	wantOpen(t, "who trims just has room", d, got, code, hasNoise(0, 1), hasNoise(1, 2), hasNoise(2, 3), hasSize(3, 45), none(4))
	got, code = impl.Write(d, 4, runBlock(1))
	wantDisk(t, "who trims has room, a run has none", got, code, sealedThen(d, 2, has(4, 1)))
	d = full()
	got, code = impl.Trim(d, 4)
	wantDisk(t, "a byte too many for who trims", got, code, sealedThen(d, 2, none(4)))
	got, code = impl.Trim(d, 3)
	wantOpen(t, "who is open already, trimmed", d, got, code, hasNoise(0, 1), hasNoise(1, 2), hasNoise(2, 3), none(3))
	got, code = impl.Write(d, 1, noise(9))
	wantOpen(t, "who is open already, with as many bytes", d, got, code, hasNoise(0, 1), hasNoise(2, 3), hasSize(3, 46), hasNoise(1, 9))
	got, code = impl.Write(d, 3, noise(9))
	wantDisk(t, "who is open already, with too many bytes: what was open is sealed, the old one, too", got, code, sealedThen(d, 2, hasNoise(3, 9)))
	wantBlockAt(t, "the new one counts", got, 3, noise(9))
	wantBlockAt(t, "the others are there", got, 1, noise(2))
}

// Two are free: one of them is taken. Fewer are free: it is saved first.
func TestWriteKeepsOneBack(t *testing.T) {
	d := full()
	wantPut(t, "all are free", d, 5, sealsAt(2))
	d.Chain = []int{6, 2, 8, 5}
	wantPut(t, "three are free", d, 5, sealsAt(3))
	d.Chain = []int{6, 2, 8, 5, 4}
	wantPut(t, "two are free", d, 5, sealsAt(3))
	d.Chain = []int{6, 2, 8, 5, 3}
	wantPut(t, "the last two are free", d, 5, sealsAt(4))
	d.Chain = []int{6, 2, 8, 5, 4, 7}
	wantPut(t, "one is free", d, 5, savesAndSealsAt(2))
	d.Chain = []int{6, 2, 8, 5, 4, 7, 3}
	wantPut(t, "none is free", d, 5, savesAndSealsAt(2))
	d.Chain, d.Saved = nil, mapOf(in(2, 0), in(3, 0), in(4, 0), in(5, 0), in(6, 0), in(0, 0), in(0, 0))
	wantPut(t, "two are free by Saved", d, 5, sealsAt(7))
	d.Saved.L[6] = in(8, 0)
	wantPut(t, "one is free by Saved", d, 5, savesAndSealsAt(2))
	d.Saved.L[5] = in(7, 0)
	wantPut(t, "none is free by Saved", d, 5, savesAndSealsAt(2))
	d.Saved, d.Map = nowhere(7), mapOf(in(2, 0), in(3, 0), in(4, 0), in(5, 0), in(6, 0), in(0, 0), in(0, 0))
	wantPut(t, "two are free by Map", d, 5, sealsAt(7))
	d.Chain = []int{8}
	wantPut(t, "one is free, two behind a save", d, 5, savesAndSealsAt(7))
	d.Chain = []int{7, 8}
	wantPut(t, "none is free, two behind a save", d, 5, savesAndSealsAt(7))
	d.Chain = nil
	d.Map.L[6] = in(7, 0)
	wantNotPut(t, "one is free, behind a save, too", d, 5)
	d.Chain = []int{8}
	wantNotPut(t, "none is free, one behind a save", d, 5)
	d.Map.L[5] = in(8, 0)
	wantNotPut(t, "none is free, none behind a save", d, 5)
	d.Chain = nil
	wantNotPut(t, "somebody is at each sector", d, 5)
	d.Map.L[3] = in(2, 5)
	wantNotPut(t, "one is free, though the pack would free others", d, 5)
	d.Map.L[4] = in(2, 6)
	wantPut(t, "two are free again", d, 5, sealsAt(5))
}

// What a write keeps back is there for a flush: whatever was sealed, what is open then has its sector, without another save.
func TestWhatIsKeptBackIsForAFlush(t *testing.T) {
	d := full()
	for _, chain := range [][]int{nil, {4, 5, 6, 7, 8}, {3, 4, 5, 6, 7, 8}, {2, 3, 4, 5, 6, 7, 8}} {
		d.Chain = chain
		got, code := writeHolds(t, "kept back", d, 5, noise(5))
		if code != impl.DkWell || len(impl.Free(got)) == 0 {
			t.Fatalf("code %d, %v are free, of %s", code, impl.Free(got), diskText(got))
		}
		flushed, code := flushHolds(t, "kept back", got)
		if code != impl.DkWell || flushed.Epoch != got.Epoch || flushed.Order != got.Order+1 || len(flushed.Open.Items) != 0 {
			t.Fatalf("code %d, %s, behind %s", code, diskText(flushed), diskText(got))
		}
		wantBlockAt(t, "kept back", flushed, 5, noise(5))
	}
}

func TestWriteAtTheLastEpochs(t *testing.T) {
	for _, epoch := range []int{0, 1, 2, 255, impl.MaxEpoch - 2, impl.MaxEpoch - 1} {
		d := full()
		d.Epoch = epoch
		wantPut(t, "two are free", d, 4, sealsAt(2))
		d.Chain = []int{2, 3, 4, 5, 6, 7}
		wantPut(t, fmt.Sprint("one is free, epoch ", epoch), d, 4, savesAndSealsAt(2))
		d.Order = impl.MaxEpoch
		wantPut(t, "neither is left", d, 4, savesAndSealsAt(2))
	}
	d := full()
	d.Epoch = impl.MaxEpoch
	wantPut(t, "no epoch is left, two are free", d, 4, sealsAt(2))
	d.Chain = []int{2, 3, 4, 5, 6}
	wantPut(t, "no epoch is left, the last two are free", d, 4, sealsAt(7))
	d.Chain = []int{2, 3, 4, 5, 6, 7}
	wantNotPut(t, "no epoch is left, one is free", d, 4)
	d.Chain = []int{2, 3, 4, 5, 6, 7, 8}
	wantNotPut(t, "no epoch is left, none is free", d, 4)
	d.Chain, d.Order = nil, impl.MaxEpoch
	wantNotPut(t, "no epoch is left, no Order is left", d, 4)
	d.Order = impl.MaxEpoch - 1
	wantPut(t, "the last of all", d, 4, sealsAt(2))
}

func TestWriteAtTheLastOrders(t *testing.T) {
	for _, order := range []int{0, 1, 255, impl.MaxEpoch - 2, impl.MaxEpoch - 1} {
		d := full()
		d.Order = order
		wantPut(t, fmt.Sprint("Order ", order), d, 4, sealsAt(2))
	}
	d := full()
	d.Order = impl.MaxEpoch
	wantPut(t, "no Order is left", d, 4, savesAndSealsAt(2))
	d.Map, d.Saved = together(7, 2), together(7, 3)
	wantPut(t, "no Order is left, somebody is at a place", d, 4, savesAndSealsAt(3))
	d.Map = mapOf(in(2, 0), in(3, 0), in(4, 0), in(5, 0), in(6, 0), in(7, 0), in(0, 0))
	wantNotPut(t, "no Order is left, one is free behind a save", d, 4)
	d.Epoch = impl.MaxEpoch - 1
	d.Map.L[5] = in(0, 0)
	wantPut(t, "no Order is left, one epoch is", d, 4, savesAndSealsAt(7))
}

// MaxPending wait, one less, or few: the pack waits behind them, or alone behind a barrier.
func TestWriteBehindWhatWaits(t *testing.T) {
	for _, many := range []int{0, 1, impl.MaxPending - 2, impl.MaxPending - 1, impl.MaxPending} {
		for _, at := range []int{0, 2, 5, 8} {
			d := full()
			d.Raw = rawOf(9, alike(many, at)...)
			wantPut(t, fmt.Sprint(many, " wait for ", at), d, 6, sealsAt(2))
			got, _ := impl.Write(d, 6, noise(3))
			if want := many%impl.MaxPending + 1; len(got.Raw.Pending) != want {
				t.Fatalf("%d wait, want %d, of %s", len(got.Raw.Pending), want, diskText(got))
			}
			d.Chain = []int{3, 4, 5, 6, 7, 8}
			wantPut(t, fmt.Sprint(many, " wait for ", at, ", saved"), d, 6, savesAndSealsAt(2))
			got, _ = impl.Write(d, 6, noise(3))
			if len(got.Raw.Pending) != 1 {
				t.Fatalf("%d wait behind a save, of %s", len(got.Raw.Pending), diskText(got))
			}
			saved, code := saveHolds(t, "behind what waits", d)
			if code != impl.DkWell || len(saved.Raw.Pending) != 0 {
				t.Fatalf("code %d, %s", code, diskText(saved))
			}
		}
	}
}

func TestWriteRefuses(t *testing.T) {
	for name, d := range wrongDisks() {
		for _, addr := range []int{-1, 0, 5, math.MaxInt} {
			for _, block := range [][]byte{nil, noise(1), noise(1)[:63]} {
				got, code := impl.Write(d, addr, block)
				wantNoDisk(t, name+": Write", got, code, impl.DkForm)
			}
			got, code := impl.Trim(d, addr)
			wantNoDisk(t, name+": Trim", got, code, impl.DkForm)
		}
	}
	wedged := full()
	wedged.Epoch, wedged.Chain = impl.MaxEpoch, []int{2, 3, 4, 5, 6, 7, 8}
	for name, d := range map[string]impl.Disk{"new": newDisk(7, 9), "plain": plainDisk(), "full": full(), "no room: Range counts ahead of Space": wedged} {
		n := len(d.Map.L)
		for _, addr := range []int{math.MinInt, -256, -1, n, n + 1, 15, 16, 256, math.MaxInt} {
			for _, size := range []int{0, 63, 64, 65} {
				got, code := impl.Write(d, addr, sectorOf(5)[:size])
				wantAsItWas(t, fmt.Sprint(name, ": Write of ", size, " at ", addr), d, got, code, impl.DkRange)
			}
			got, code := impl.Trim(d, addr)
			wantAsItWas(t, fmt.Sprint(name, ": Trim at ", addr), d, got, code, impl.DkRange)
		}
		for _, size := range []int{0, 1, 2, 62, 63, 65, 66, 128, 256} {
			for _, addr := range []int{0, n - 1} {
				got, code := impl.Write(d, addr, sectorOf(5)[:size])
				wantAsItWas(t, fmt.Sprint(name, ": Write of ", size, " at ", addr), d, got, code, impl.DkRange)
				got, code = impl.Write(d, addr, make([]byte, size))
				wantAsItWas(t, fmt.Sprint(name, ": Write of noughts, ", size, " at ", addr), d, got, code, impl.DkRange)
			}
		}
		got, code := impl.Write(d, 0, make([]byte, 1<<20))
		wantAsItWas(t, name+": Write of many bytes", d, got, code, impl.DkRange)
	}
	for _, s := range []shape{{1, 6}, {3, 6}, {6, 7}, {16, 11}, {16, 24}} {
		d := newDisk(s.n, s.raws)
		for _, addr := range []int{0, s.n - 1} {
			got, code := impl.Write(d, addr, noise(4))
			wantOpen(t, "the first address and the last one", d, got, code, hasNoise(addr, 4))
			got, code = impl.Trim(d, addr)
			wantOpen(t, "the first address and the last one", d, got, code, none(addr))
		}
	}
}

func TestFlushByHand(t *testing.T) {
	d := plainDisk()
	d.Open = impl.Pack{}
	got, code := impl.Flush(d)
	want := clonedDisk(d)
	want.Raw = slowSettled(d.Raw)
	wantDisk(t, "nothing is open: what waits is written", got, code, want)
	d.Epoch, d.Order, d.Chain = impl.MaxEpoch, impl.MaxEpoch, []int{2, 3, 5, 7}
	want.Epoch, want.Order, want.Chain = impl.MaxEpoch, impl.MaxEpoch, []int{2, 3, 5, 7}
	got, code = impl.Flush(d)
	wantDisk(t, "nothing is open, nothing is free, nothing is left", got, code, want)
	d = plainDisk()
	got, code = impl.Flush(d)
	want = clonedDisk(d)
	want.Raw = packedAt(d, 5, packOf(6, 3, has(4, 9), none(1)))
	want.Order, want.Chain, want.Open = 3, []int{2, 3, 5}, impl.Pack{}
	want.Map = mapOf(in(2, 0), in(0, 0), in(0, 0), in(6, 0), in(5, 0))
	wantDisk(t, "two are free", got, code, want)
	d.Chain = []int{3, 2, 5}
	got, code = impl.Flush(d)
	want.Raw = packedAt(d, 7, packOf(6, 3, has(4, 9), none(1)))
	want.Chain, want.Map.L[4] = []int{3, 2, 5, 7}, in(7, 0)
	wantDisk(t, "one is free: nothing is kept back", got, code, want)
	d.Chain = []int{2, 7, 3, 5}
	got, code = impl.Flush(d)
	want = impl.Disk{Raw: savedThen(d, 4), Epoch: 7, Order: 1, Map: mapOf(in(2, 0), in(0, 0), in(0, 0), in(6, 0), in(4, 0)), Saved: d.Map, Chain: []int{4}}
	wantDisk(t, "none is free: it is saved first", got, code, want)
	d.Epoch = impl.MaxEpoch
	got, code = impl.Flush(d)
	wantAsItWas(t, "none is free, no epoch is left", d, got, code, impl.DkSpace)
	d = newDisk(7, 9)
	d.Map = mapOf(in(2, 0), in(3, 0), in(4, 0), in(5, 0), in(6, 0), in(7, 0), in(8, 0))
	d.Open = packOf(0, 0, none(3))
	d.Raw = waiting(d.Raw, 4, sectorOf(4))
	got, code = impl.Flush(d)
	wantAsItWas(t, "none is free behind a save: what it saved is undone", d, got, code, impl.DkSpace)
	d.Map.L[6] = in(0, 0)
	got, code = impl.Flush(d)
	want = clonedDisk(d)
	want.Raw = packedAt(d, 8, packOf(1, 1, none(3)))
	want.Order, want.Chain, want.Open, want.Map.L[3] = 1, []int{8}, impl.Pack{}, in(0, 0)
	wantDisk(t, "the last one is free", got, code, want)
}

func TestSaveByHand(t *testing.T) {
	for _, epoch := range []int{0, 1, 6, 7, 255, impl.MaxEpoch - 1} {
		d := plainDisk()
		d.Epoch, d.Open = epoch, impl.Pack{}
		want := impl.Disk{Raw: slowSettled(d.Raw), Epoch: epoch + 1, Map: d.Map, Saved: d.Map}
		want.Raw.Sectors[(epoch+1)%2] = slowSuperBytes(epoch+1, d.Map)
		got, code := impl.Save(d)
		wantDisk(t, "nothing is open", got, code, want)
		d.Open = plainDisk().Open
		want.Map = mapOf(in(2, 0), in(0, 0), in(0, 0), in(6, 0), in(5, 0))
		want.Saved = want.Map
		want.Raw = packedAt(d, 5, packOf(epoch, 3, has(4, 9), none(1)))
		want.Raw.Sectors[(epoch+1)%2] = slowSuperBytes(epoch+1, want.Map)
		got, code = impl.Save(d)
		wantDisk(t, "flushed and saved", got, code, want)
		saveHolds(t, "flushed and saved", d)
		if epoch == impl.MaxEpoch-1 {
			continue
		}
		d.Chain = []int{2, 7, 3, 5}
		want.Epoch = epoch + 2
		want.Map = mapOf(in(2, 0), in(0, 0), in(0, 0), in(6, 0), in(4, 0))
		want.Saved = want.Map
		want.Raw = savedThen(d, 4)
		want.Raw.Sectors[epoch%2] = slowSuperBytes(epoch+2, want.Map)
		got, code = impl.Save(d)
		wantDisk(t, "saved, flushed and saved", got, code, want)
	}
}

func TestSaveThatCantBe(t *testing.T) {
	d := plainDisk()
	d.Epoch = impl.MaxEpoch
	if _, code := flushHolds(t, "it could be flushed", d); code != impl.DkWell {
		t.Fatalf("Flush tells %d", code)
	}
	got, code := impl.Save(d)
	wantAsItWas(t, "it could be flushed, no epoch is left", d, got, code, impl.DkSpace)
	d.Open = impl.Pack{}
	got, code = impl.Save(d)
	wantAsItWas(t, "nothing is open, no epoch is left", d, got, code, impl.DkSpace)
	d = plainDisk()
	d.Chain, d.Epoch = []int{2, 7, 3, 5}, impl.MaxEpoch-1
	if _, code := flushHolds(t, "it could be flushed", d); code != impl.DkWell {
		t.Fatalf("Flush tells %d", code)
	}
	got, code = impl.Save(d)
	wantAsItWas(t, "the last epoch is for the flush", d, got, code, impl.DkSpace)
	d.Epoch--
	if got, code = saveHolds(t, "one epoch more", d); code != impl.DkWell || got.Epoch != impl.MaxEpoch {
		t.Fatalf("code %d, %s", code, diskText(got))
	}
	d = newDisk(7, 9)
	d.Map = mapOf(in(2, 0), in(3, 0), in(4, 0), in(5, 0), in(6, 0), in(7, 0), in(8, 0))
	d.Open = packOf(0, 0, has(3, 1))
	got, code = impl.Save(d)
	wantAsItWas(t, "it can't be flushed", d, got, code, impl.DkSpace)
	d.Open = impl.Pack{}
	if got, code = saveHolds(t, "there is nothing to flush", d); code != impl.DkWell || got.Epoch != 2 {
		t.Fatalf("code %d, %s", code, diskText(got))
	}
}

func TestFlushAndSaveRefuse(t *testing.T) {
	for name, d := range wrongDisks() {
		got, code := impl.Flush(d)
		wantNoDisk(t, name+": Flush", got, code, impl.DkForm)
		got, code = impl.Save(d)
		wantNoDisk(t, name+": Save", got, code, impl.DkForm)
		r, ok := impl.CrashDisk(d, []bool{true})
		wantNoRaw(t, name+": CrashDisk", r, ok)
	}
}

// crowdedOpen has in Open as many noise as there is room for, and then the longest Blobs that there is room for.
func crowdedOpen(d impl.Disk, seed int) impl.Disk {
	sizes := slices.Sorted(maps.Keys(blobSizes()))
	for i := range len(d.Map.L) {
		x := none((i + seed) % len(d.Map.L))
		more, ok := slowAdd(d.Open, x)
		if !ok {
			break
		}
		left := impl.RawBytes - slowPackSize(more)
		for _, size := range sizes {
			if size <= left {
				x = hasSize(x.Addr, size)
			}
		}
		if len(x.Blob) == maxBlob {
			x = hasNoise(x.Addr, seed+i)
		}
		d.Open, _ = slowAdd(d.Open, x)
	}
	return d
}

// Any disk, with little room in Open and with much: all that may be asked of it is as the model tells.
func TestActsOnAnyDisk(t *testing.T) {
	codes, saved := map[string]int{}, 0
	for seed := range uint64(2500) {
		d := anyDisk(seed)
		if seed%4 > 0 {
			d = crowdedOpen(d, int(seed))
		}
		name := fmt.Sprint("seed ", seed)
		addr := int(seed/3) % len(d.Map.L)
		got, code := writeHolds(t, name, d, addr, noise(int(seed)))
		codes[fmt.Sprint("write ", code)]++
		if code == impl.DkWell {
			wantBlockAt(t, name, got, addr, noise(int(seed)))
			if got.Epoch != d.Epoch {
				saved++
			}
		}
		got, code = trimHolds(t, name, d, addr)
		codes[fmt.Sprint("trim ", code)]++
		if code == impl.DkWell {
			wantBlockAt(t, name, got, addr, noughts())
		}
		_, code = flushHolds(t, name, d)
		codes[fmt.Sprint("flush ", code)]++
		_, code = saveHolds(t, name, d)
		codes[fmt.Sprint("save ", code)]++
	}
	for _, kind := range []string{"write", "trim", "flush", "save"} {
		if codes[kind+" 0"] < 500 || codes[kind+" 3"] < 25 {
			t.Fatalf("codes %v", codes)
		}
	}
	if saved < 100 {
		t.Fatalf("only %d were saved", saved)
	}
}

func TestCrashDisk(t *testing.T) {
	for _, many := range []int{0, 1, 2, 7, impl.MaxPending - 1, impl.MaxPending} {
		d := plainDisk()
		d.Raw = rawOf(8, picked(many, 7, uint64(many))...)
		for _, keep := range keepsOf(many) {
			r, ok := impl.CrashDisk(d, keep)
			wantRaw(t, fmt.Sprintf("%d wait, %d flags", many, len(keep)), r, ok, impl.Raw{Sectors: slowKept(d.Raw, keep)})
		}
	}
	d := plainDisk()
	d.Raw = rawOf(8, 4, 5, 4)
	for name, c := range map[string]struct {
		keep  []bool
		four  []byte
		fifth []byte
	}{
		"none":                     {nil, sectorOf(4), sectorOf(5)},
		"shorter":                  {[]bool{true}, sectorOf(1000), sectorOf(5)},
		"shorter by one":           {[]bool{false, true}, sectorOf(4), sectorOf(1001)},
		"as long":                  {[]bool{true, true, true}, sectorOf(1002), sectorOf(1001)},
		"as long, the last is not": {[]bool{true, true, false}, sectorOf(1000), sectorOf(1001)},
		"longer":                   {[]bool{false, false, true, true, true}, sectorOf(1002), sectorOf(5)},
		"longer, nothing is kept":  {[]bool{false, false, false, true}, sectorOf(4), sectorOf(5)},
	} {
		want := rawOf(8)
		want.Sectors[4], want.Sectors[5] = c.four, c.fifth
		r, ok := impl.CrashDisk(d, c.keep)
		wantRaw(t, name, r, ok, want)
	}
	for _, d := range rightDisks() {
		r, ok := impl.CrashDisk(d, nil)
		wantRaw(t, "whatever disk", r, ok, impl.Raw{Sectors: d.Raw.Sectors})
	}
}

// What is open at a crash is lost; what was sealed is there, if it is kept; of what is behind a gap nothing is.
func TestCrashByHand(t *testing.T) {
	d, _ := impl.Format(8, 12)
	want := manyNoughts(8)
	for addr := range 8 {
		d, _ = impl.Write(d, addr, noise(addr))
		want[addr] = noise(addr)
	}
	d, _ = impl.Flush(d)
	for addr := range 8 {
		d, _ = impl.Write(d, addr, noise(50+addr))
	}
	if len(d.Raw.Pending) != 2 || len(d.Open.Items) != 2 || d.Epoch != 1 {
		t.Fatal(diskText(d))
	}
	for name, c := range map[string]struct {
		keep  []bool
		newer int
	}{
		"nothing is kept":    {nil, 0},
		"the first is kept":  {[]bool{true}, 3},
		"both are kept":      {[]bool{true, true}, 6},
		"the second is kept": {[]bool{false, true}, 0},
		"more than wait":     {ones(9), 6},
		"neither of both is": {[]bool{false, false, true}, 0},
	} {
		r, _ := impl.CrashDisk(d, c.keep)
		found, code := impl.Mount(r)
		if code != impl.DkWell {
			t.Fatalf("%s: Mount tells %d", name, code)
		}
		now := slices.Clone(want)
		for addr := range c.newer {
			now[addr] = noise(50 + addr)
		}
		soundHolds(t, name, found, now)
	}
}

// life is a disk, what its addresses have, and what each may have behind a crash: what it had at the last flush, and all that was put there since.
type life struct {
	disk impl.Disk
	now  [][]byte
	may  [][][]byte
}

func newLife(s shape) *life {
	d, _ := impl.Format(s.n, s.raws)
	l := &life{disk: d, now: manyNoughts(s.n)}
	l.settle()
	return l
}

func (l *life) settle() {
	l.may = nil
	for _, block := range l.now {
		l.may = append(l.may, [][]byte{block})
	}
}

func (l *life) put(addr int, block []byte) {
	l.now = with(l.now, addr, block)
	l.may[addr] = append(l.may[addr], block)
}

// crash mounts what is left behind a crash; each address has what it may have.
func (l *life) crash(t *testing.T, name string, keep []bool) *life {
	t.Helper()
	r, ok := impl.CrashDisk(l.disk, keep)
	wantRaw(t, name+": CrashDisk", r, ok, impl.Raw{Sectors: slowKept(l.disk.Raw, keep)})
	d, code := impl.Mount(r)
	if code != impl.DkWell {
		t.Fatalf("%s: Mount tells %d, behind %s", name, code, diskText(l.disk))
	}
	return l.found(t, fmt.Sprintf("%s, keeping %v", name, keep), d)
}

// found is the life that goes on with what was mounted behind a crash.
func (l *life) found(t *testing.T, name string, d impl.Disk) *life {
	t.Helper()
	all, ok := impl.All(d)
	if !ok || len(all) != len(l.now) {
		t.Fatalf("%s: All is %x, %v, behind %s", name, all, ok, diskText(l.disk))
	}
	for addr, block := range all {
		if !slices.ContainsFunc(l.may[addr], func(one []byte) bool { return bytes.Equal(one, block) }) {
			t.Fatalf("%s: %d has %x behind a crash of %s", name, addr, block, diskText(l.disk))
		}
	}
	soundBut(t, name+", behind a crash", d, all)
	after := &life{disk: d, now: all}
	after.settle()
	return after
}

// crashes are done beside the life, with nothing, all and drawn ones kept.
func (l *life) crashes(t *testing.T, name string, seed int) {
	t.Helper()
	n := len(l.disk.Raw.Pending)
	for _, keep := range [][]bool{nil, make([]bool, n), ones(n), ones(n + 3), mixed(n, uint64(seed)), mixed(n+1, uint64(seed+1)), mixed(max(0, n-1), uint64(seed+2))} {
		l.crash(t, name, keep)
	}
}

// step does one act that is picked, and tells its code.
func (l *life) step(t *testing.T, name string, kind int, addr int, block []byte) int {
	t.Helper()
	d, code := l.disk, impl.DkWell
	switch {
	case kind < 2:
		d, code = trimHolds(t, name, d, addr)
		block = noughts()
	case kind == 2:
		d, code = flushHolds(t, name, d)
	case kind == 3:
		d, code = saveHolds(t, name, d)
	default:
		d, code = writeHolds(t, name, d, addr, block)
	}
	if code != impl.DkWell {
		wantAsItWas(t, name, l.disk, d, code, impl.DkSpace)
		return code
	}
	kept := canFlush(l.disk) && len(l.disk.Open.Items) > 0
	l.disk = d
	if kind == 2 || kind == 3 {
		l.settle()
	} else {
		l.put(addr, block)
	}
	if kept || canFlush(d) {
		soundHolds(t, name, d, l.now)
	} else {
		soundBut(t, name, d, l.now)
	}
	return code
}

// live goes through many steps, a few crashes between them; a disk that has no room left is made anew. It tells how often that was.
func live(t *testing.T, s shape, steps int, rare int, seed uint64) int {
	t.Helper()
	l := newLife(s)
	refused := 0
	kinds, addrs, blocks := picked(steps, rare, seed), picked(steps, s.n-1, seed+1), picked(steps, 9, seed+2)
	for i, kind := range kinds {
		name := fmt.Sprint("shape ", s, ", seed ", seed, ", step ", i)
		block := noise(i + 1000*int(seed))
		if blocks[i] < 2 {
			block = someBlocks()[(i+int(seed))%60]
		}
		if l.step(t, name, kind, addrs[i], block) != impl.DkWell {
			refused++
		}
		if i%3 == 0 {
			l.crashes(t, name, i+int(seed))
		}
		if i%37 == 36 {
			l = l.crash(t, name, mixed(len(l.disk.Raw.Pending), seed+uint64(i)))
		}
		if i%50 == 49 && !canFlush(l.disk) {
			l = newLife(s)
		}
	}
	return refused
}

// Promises 10 and 12, on disks of many shapes: often flushed, seldom, and nearly never.
func TestDisksInManySteps(t *testing.T) {
	refused := 0
	for i, s := range []shape{{1, 6}, {3, 6}, {4, 7}, {6, 7}, {7, 9}, {9, 8}, {12, 9}, {16, 11}, {16, 16}, {16, 24}} {
		for j, rare := range []int{6, 20, 90} {
			many := live(t, s, 220, rare, uint64(3*i+j))
			if s.n <= s.raws-4 && many > 0 {
				t.Fatalf("shape %v: %d were refused, though two sectors are always free behind a save", s, many)
			}
			refused += many
		}
	}
	if refused < 5 {
		t.Fatalf("only %d were refused", refused)
	}
}

// On each shape: each address is written, flushed, and written anew or trimmed; behind each step there is a crash.
func TestCrashesOfEachShape(t *testing.T) {
	for i, s := range shapes() {
		l := newLife(s)
		name := fmt.Sprint("shape ", s)
		for addr := range s.n {
			l.step(t, name, 9, addr, noise(addr))
		}
		if l.step(t, name, 2, 0, nil) != impl.DkWell {
			t.Fatalf("%s can't be flushed", name)
		}
		for j, addr := range picked(4, s.n-1, uint64(i)) {
			l.step(t, name, (i+j)%5, addr, noise(100+i+j))
			l.crashes(t, name, i+j)
		}
	}
}

// asDisk has blocks as a disk's sectors, and a code as its Epoch.
func asDisk(code int, blocks ...[]byte) impl.Disk {
	return impl.Disk{Raw: impl.Raw{Sectors: blocks}, Epoch: code}
}

func coded(d impl.Disk, code int) impl.Disk {
	d.Order += 1000000 * code
	return d
}

// blockDoes has what each function tells of a disk, as a disk.
func blockDoes() map[string]func(d impl.Disk) impl.Disk {
	all := map[string]func(d impl.Disk) impl.Disk{
		"Flush":   func(d impl.Disk) impl.Disk { return coded(impl.Flush(d)) },
		"Save":    func(d impl.Disk) impl.Disk { return coded(impl.Save(d)) },
		"All":     func(d impl.Disk) impl.Disk { l, ok := impl.All(d); return asDisk(len(fmt.Sprint(ok)), l...) },
		"a block": func(d impl.Disk) impl.Disk { return coded(impl.Write(d, 0, noise(1)[:63])) },
		"CrashDisk": func(d impl.Disk) impl.Disk {
			r, ok := impl.CrashDisk(d, ones(3))
			return impl.Disk{Raw: r, Epoch: len(fmt.Sprint(ok))}
		},
		"Crash": func(d impl.Disk) impl.Disk {
			r, ok := impl.CrashDisk(d, nil)
			return impl.Disk{Raw: r, Epoch: len(fmt.Sprint(ok))}
		},
	}
	for _, addr := range []int{-1, 0, 2, 4, 5} {
		all[fmt.Sprint("Read at ", addr)] = func(d impl.Disk) impl.Disk { b, code := impl.Read(d, addr); return asDisk(code, b) }
		all[fmt.Sprint("Write at ", addr)] = func(d impl.Disk) impl.Disk { return coded(impl.Write(d, addr, noise(addr+2))) }
		all[fmt.Sprint("Trim at ", addr)] = func(d impl.Disk) impl.Disk { return coded(impl.Trim(d, addr)) }
	}
	return all
}

// allBytesAreApart spoils one list of bytes after the other, with the room behind it, those of Open, too.
func allBytesAreApart(t *testing.T, name string, d impl.Disk) {
	t.Helper()
	all := slices.Concat(d.Raw.Sectors, blobsIn(d.Open))
	listsAreApart(t, name, impl.Raw{Sectors: all, Pending: d.Raw.Pending})
}

func TestBlockArgumentsStay(t *testing.T) {
	all := append(rightDisks(), full())
	for name, d := range wrongDisks() {
		if len(name)%5 == 0 {
			all = append(all, d)
		}
	}
	for seed := range uint64(60) {
		all = append(all, anyHeld(seed), crowdedOpen(anyDisk(seed), int(seed)))
	}
	for name, do := range blockDoes() {
		for _, d := range all {
			keepsDiskApart(t, name, d, do)
			allBytesAreApart(t, name, do(d))
		}
	}
}

// A block, and flags, that are handed in stay as they are, and are no part of the answer.
func TestBlocksHandedInStay(t *testing.T) {
	for _, d := range []impl.Disk{newDisk(7, 9), full(), crowdedOpen(plainDisk(), 3)} {
		for _, block := range append(someBlocks()[:30], nil, noise(1), noise(1)[:63], sectorOf(1)[:65]) {
			for _, addr := range []int{-1, 0, 4} {
				keepsBytesApart(t, "Write", block, func(b []byte) []byte {
					got, _ := impl.Write(d, addr, b)
					if n := len(got.Open.Items); n > 0 {
						return got.Open.Items[n-1].Blob
					}
					return nil
				})
			}
		}
		room := []bool{true, false, true, true, false, true}
		for size := range 4 {
			impl.CrashDisk(d, room[:size])
			if !slices.Equal(room, []bool{true, false, true, true, false, true}) {
				t.Fatalf("CrashDisk writes into its flags: %v", room)
			}
		}
	}
	d := plainDisk()
	d.Raw = rawOf(8, 4, 5, 6)
	r, ok := impl.CrashDisk(d, []bool{true, true, true}[:1])
	want := rawOf(8)
	want.Sectors[4] = sectorOf(1000)
	wantRaw(t, "flags behind the length are none", r, ok, want)
	list, _ := fenced(noise(3)[:63])
	got, code := impl.Write(d, 1, list)
	wantAsItWas(t, "a byte in the spare room", d, got, code, impl.DkRange)
}

// One list at several places of an argument: the answer has one for each.
func TestListsOfBlocksComeApart(t *testing.T) {
	one, blob := make([]byte, impl.RawBytes), hasNoise(0, 1).Blob
	d := newDisk(7, 9)
	for at := range d.Raw.Sectors {
		d.Raw.Sectors[at] = one
		d.Raw.Pending = append(d.Raw.Pending, impl.Pend{At: at, Data: one})
	}
	d.Saved = d.Map
	d.Open = packOf(0, 0, impl.Item{Addr: 0, Blob: blob}, impl.Item{Addr: 1, Blob: blob}, impl.Item{Addr: 2, Blob: blob})
	wedged := clonedDisk(d)
	wedged.Raw, wedged.Open, wedged.Saved = d.Raw, d.Open, wedged.Map
	wedged.Epoch, wedged.Chain = impl.MaxEpoch, []int{2, 3, 4, 5, 6, 7, 8}
	before := clonedDisk(d)
	for _, x := range []impl.Disk{d, wedged} {
		for name, do := range blockDoes() {
			got := do(x)
			allBytesAreApart(t, name, got)
			placesAreApart(t, name, got)
			spoilDisk(got)
			if !sameDisk(d, before) {
				t.Fatalf("%s: an argument changes with an answer", name)
			}
		}
	}
	l, _ := impl.All(newDisk(16, 24))
	listsAreApart(t, "All", impl.Raw{Sectors: l})
}

// keepNothing tells where answers of one call are those of another one, behind a refusal, too.
func keepNothing(t *testing.T, all map[string]func(d impl.Disk) impl.Disk, disks ...impl.Disk) {
	t.Helper()
	for range 2 {
		for _, d := range disks {
			for name, do := range all {
				want := clonedDisk(do(d))
				spoilDisk(do(d))
				do(impl.Disk{})
				do(newDisk(7, 9))
				if got := do(d); !sameDisk(got, want) {
					t.Fatalf("%s again: %s, want %s", name, diskText(got), diskText(want))
				}
			}
		}
	}
}

func TestBlocksKeepNothing(t *testing.T) {
	keepNothing(t, blockDoes(), full(), packed(has(1, 11), has(4, 14), has(0, 10)))
}

// What is refused changes nothing: behind each refusal all is read as it was.
func TestWhatIsRefusedChangesNothing(t *testing.T) {
	d := newDisk(7, 9)
	d.Map = mapOf(in(2, 0), in(3, 0), in(4, 0), in(5, 0), in(6, 0), in(7, 0), in(8, 0))
	want := [][]byte{}
	for addr := range 7 {
		d.Raw.Sectors[2+addr] = slowPackBytes(packOf(0, 1+addr, hasNoise(addr, addr)))
		want = append(want, noise(addr))
	}
	d.Open = packOf(0, 0, hasNoise(0, 50), hasNoise(1, 51), hasNoise(2, 52))
	want[0], want[1], want[2] = noise(50), noise(51), noise(52)
	for name, refused := range map[string]func() (impl.Disk, int){
		"Write":            func() (impl.Disk, int) { return impl.Write(d, 3, noise(53)) },
		"Write, no addr":   func() (impl.Disk, int) { return impl.Write(d, 7, noise(53)) },
		"Write, no block":  func() (impl.Disk, int) { return impl.Write(d, 3, nil) },
		"Trim, no address": func() (impl.Disk, int) { return impl.Trim(d, -1) },
		"Flush":            func() (impl.Disk, int) { return impl.Flush(d) },
		"Save":             func() (impl.Disk, int) { return impl.Save(d) },
	} {
		got, code := refused()
		if code != impl.DkSpace && code != impl.DkRange {
			t.Fatalf("%s: code %d", name, code)
		}
		wantAsItWas(t, name, d, got, code, code)
		wantAll(t, name, got, want)
		wantAll(t, name+": the argument", d, want)
	}
	for _, addr := range []int{0, 1, 2} {
		got, code := impl.Write(d, addr, noise(60))
		if code != impl.DkWell {
			t.Fatalf("who is open already has no room: %d", code)
		}
		wantAll(t, "who is open already", got, with(want, addr, noise(60)))
	}
}
