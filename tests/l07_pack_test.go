package tests

import (
	"bytes"
	"fmt"
	"maps"
	"math"
	"slices"
	"sync"
	"testing"

	"loop.example/g00528/impl"
)

// blobSizes has, for each length that a blob of someBlocks has, the first one.
var blobSizes = sync.OnceValue(func() map[int][]byte {
	all := map[int][]byte{0: nil}
	for _, block := range someBlocks() {
		for mode := impl.MdRaw; mode <= impl.MdFse; mode++ {
			blob, ok := slowPacked(block, mode)
			if ok && len(blob) <= maxBlob && all[len(blob)] == nil {
				all[len(blob)] = blob
			}
		}
	}
	return all
})

// blobOf is a right blob of just this size, with a list of its own.
func blobOf(size int) []byte {
	blob, ok := blobSizes()[size]
	if !ok {
		panic(fmt.Sprint("no blob of ", size))
	}
	return bytes.Clone(blob)
}

func runOf(value int) []byte {
	return []byte{impl.MdRun, byte(value)}
}

func packOf(epoch int, order int, items ...impl.Item) impl.Pack {
	return impl.Pack{Epoch: epoch, Order: order, Items: items}
}

// sized has Items from the Addr 0 on whose Blobs have these sizes.
func sized(sizes ...int) impl.Pack {
	p := packOf(700, 7)
	for addr, size := range sizes {
		p.Items = append(p.Items, impl.Item{Addr: addr, Blob: blobOf(size)})
	}
	return p
}

// crowded has n Items, no two with one Blob, the greatest Addr first.
func crowded(n int) impl.Pack {
	p := packOf(300, 513)
	for i := range n {
		p.Items = append(p.Items, impl.Item{Addr: impl.MaxAddr - 1 - i, Blob: runOf(i)})
	}
	return p
}

func clonedPack(p impl.Pack) impl.Pack {
	c := impl.Pack{Epoch: p.Epoch, Order: p.Order, Items: slices.Clone(p.Items)}
	for i := range c.Items {
		c.Items[i].Blob = bytes.Clone(c.Items[i].Blob)
	}
	return c
}

func sameItem(a impl.Item, b impl.Item) bool {
	return a.Addr == b.Addr && bytes.Equal(a.Blob, b.Blob)
}

func samePack(a impl.Pack, b impl.Pack) bool {
	return a.Epoch == b.Epoch && a.Order == b.Order && slices.EqualFunc(a.Items, b.Items, sameItem)
}

func slowItemOk(x impl.Item) bool {
	_, ok := slowDecode(x.Blob)
	return x.Addr >= 0 && x.Addr <= 15 && (ok || len(x.Blob) == 0)
}

func slowPackSize(p impl.Pack) int {
	return len(slices.Concat(blobsIn(p)...)) + 2*len(p.Items) + 6
}

func slowPackOk(p impl.Pack) bool {
	if p.Epoch < 0 || p.Epoch > 60000 || p.Order < 0 || p.Order > 60000 || len(p.Items) > 16 {
		return false
	}
	for i, x := range p.Items {
		if !slowItemOk(x) {
			return false
		}
		for _, y := range p.Items[i+1:] {
			if x.Addr == y.Addr {
				return false
			}
		}
	}
	return slowPackSize(p) <= 256
}

// slowPackBytes takes what is PackOk, and puts each byte at its place.
func slowPackBytes(p impl.Pack) []byte {
	b := make([]byte, 256)
	b[0] = 'P'
	b[1], b[2] = byte(p.Epoch/256), byte(p.Epoch%256)
	b[3], b[4] = byte(p.Order/256), byte(p.Order%256)
	b[5] = byte(len(p.Items))
	at := 6 + 2*len(p.Items)
	for i, x := range p.Items {
		b[6+2*i], b[7+2*i] = byte(x.Addr), byte(len(x.Blob))
		at += copy(b[at:], x.Blob)
	}
	return b
}

// slowPackRead takes of each Blob what is there, and holds the bytes of what it read against all that it was given.
func slowPackRead(b []byte) (impl.Pack, bool) {
	if len(b) != 256 || b[0] != 'P' || 6+2*int(b[5]) > 256 {
		return impl.Pack{}, false
	}
	p := packOf(256*int(b[1])+int(b[2]), 256*int(b[3])+int(b[4]))
	left := b[6+2*int(b[5]):]
	for i := range int(b[5]) {
		size := min(int(b[7+2*i]), len(left))
		p.Items = append(p.Items, impl.Item{Addr: int(b[6+2*i]), Blob: bytes.Clone(left[:size])})
		left = left[size:]
	}
	if !slowPackOk(p) || !bytes.Equal(slowPackBytes(p), b) {
		return impl.Pack{}, false
	}
	return p, true
}

func slowAdd(p impl.Pack, x impl.Item) (impl.Pack, bool) {
	if !slowPackOk(p) || !slowItemOk(x) {
		return impl.Pack{}, false
	}
	more := clonedPack(p)
	more.Items = slices.DeleteFunc(more.Items, func(y impl.Item) bool { return y.Addr == x.Addr })
	more.Items = append(more.Items, x)
	if slowPackSize(more) > 256 {
		return p, false
	}
	return more, true
}

func blobsIn(p impl.Pack) [][]byte {
	all := [][]byte{}
	for _, x := range p.Items {
		all = append(all, x.Blob)
	}
	return all
}

func wantPack(t *testing.T, name string, got impl.Pack, ok bool, want impl.Pack) {
	t.Helper()
	if !ok || !samePack(got, want) {
		t.Fatalf("%s: %v, %v, want %v, true", name, got, ok, want)
	}
	if !impl.PackOk(got) {
		t.Fatalf("%s: %v is not PackOk", name, got)
	}
}

func wantNoPack(t *testing.T, name string, got impl.Pack, ok bool) {
	t.Helper()
	if ok || !samePack(got, impl.Pack{}) {
		t.Fatalf("%s: %v, %v, want the zero value and false", name, got, ok)
	}
}

func wantSamePack(t *testing.T, name string, got impl.Pack, ok bool, p impl.Pack) {
	t.Helper()
	if ok || !samePack(got, p) {
		t.Fatalf("%s: %v, %v, want %v, false", name, got, ok, p)
	}
}

// wrongBlobs are neither empty nor have a block.
func wrongBlobs() map[string][]byte {
	return map[string][]byte{
		"a byte alone":             {impl.MdRun},
		"a nought alone":           {0},
		"a run of two":             {impl.MdRun, 7, 7},
		"a mode too great":         {impl.MdFse + 1, 7},
		"another mode":             {9, 9},
		"a raw block, a byte less": blobOf(maxBlob)[:maxBlob-1],
		"a raw block and one more": append(blobOf(maxBlob), 0),
		"codes without an end":     {impl.MdHuff, 0, 0, 0},
		"a table without an end":   {impl.MdFse, 0, 0, 0},
		"a blob, a byte less":      blobOf(47)[:46],
		"a blob and a nought":      append(blobOf(47), 0),
		"255 bytes":                bytes.Repeat([]byte{1}, 255),
		"a run and 256 noughts":    append(runOf(3), make([]byte, 256)...),
	}
}

func wrongItems() map[string]impl.Item {
	all := map[string]impl.Item{}
	for name, blob := range wrongBlobs() {
		all[name] = impl.Item{Addr: 3, Blob: blob}
		all[name+" at an Addr that is none"] = impl.Item{Addr: impl.MaxAddr, Blob: blob}
	}
	for _, addr := range []int{math.MinInt, -256, -impl.MaxAddr, -1, impl.MaxAddr, impl.MaxAddr + 1, 255, 256, 259, 1 << 40, math.MaxInt} {
		for _, blob := range [][]byte{nil, runOf(3), blobOf(maxBlob)} {
			all[fmt.Sprintf("Addr %d, %d bytes", addr, len(blob))] = impl.Item{Addr: addr, Blob: blob}
		}
	}
	return all
}

// wrongPacks are not PackOk, nearly all for one reason alone.
func wrongPacks() map[string]impl.Pack {
	all := map[string]impl.Pack{
		"one byte too long":           sized(65, 65, 65, 48),
		"two bytes too long":          sized(65, 65, 65, 47, 0),
		"much too long":               sized(65, 65, 65, 65, 65, 65),
		"MaxAddr raw blocks":          sized(alike(impl.MaxAddr, maxBlob)...),
		"one Addr too many":           sized(make([]int, impl.MaxAddr+1)...),
		"many Addrs too many":         sized(make([]int, 1000)...),
		"one Item twice, and all":     packOf(3, 4, append(crowded(impl.MaxAddr).Items, impl.Item{Addr: 3})...),
		"one Addr, MaxAddr times":     packOf(3, 4, slices.Repeat([]impl.Item{{Addr: 5}}, impl.MaxAddr)...),
		"one Addr, MaxAddr + 1 times": packOf(3, 4, slices.Repeat([]impl.Item{{Addr: 5}}, impl.MaxAddr+1)...),
	}
	for _, n := range []int{math.MinInt, -65536, -1, impl.MaxEpoch + 1, 65535, 65536, 65536 + 7, 1 << 40, math.MaxInt} {
		all[fmt.Sprint("Epoch ", n)] = packOf(n, 7, crowded(4).Items...)
		all[fmt.Sprint("Order ", n)] = packOf(7, n, crowded(4).Items...)
		all[fmt.Sprint("Epoch and Order ", n)] = packOf(n, n)
	}
	for i := range 4 {
		for j := range i {
			p := crowded(4)
			p.Items[i].Addr = p.Items[j].Addr
			all[fmt.Sprintf("%d and %d have one Addr", j, i)] = p
			p = crowded(4)
			p.Items[i] = p.Items[j]
			all[fmt.Sprintf("%d and %d are alike", j, i)] = p
			p = sized(0, 0, 0, 0)
			p.Items[i] = p.Items[j]
			all[fmt.Sprintf("%d and %d have one Addr and nothing", j, i)] = p
		}
		for name, x := range wrongItems() {
			p := crowded(4)
			p.Items[i] = x
			all[fmt.Sprintf("%d is wrong: %s", i, name)] = p
		}
	}
	return all
}

// rightPacks have no Items, some, and the most; the least and the greatest numbers; sizes up to a sector's.
func rightPacks() []impl.Pack {
	all := []impl.Pack{{}, {Items: []impl.Item{}}, crowded(1), crowded(2), crowded(15), crowded(16)}
	for _, n := range []int{0, 1, 255, 256, 257, 511, 512, 0x1234, impl.MaxEpoch - 1, impl.MaxEpoch} {
		all = append(all, packOf(n, 0), packOf(0, n), packOf(n, n), packOf(n, impl.MaxEpoch-n, crowded(3).Items...))
	}
	for addr := range impl.MaxAddr {
		all = append(all, packOf(1, 2, impl.Item{Addr: addr}), packOf(1, 2, impl.Item{Addr: addr, Blob: blobOf(maxBlob)}))
	}
	for _, size := range slices.Sorted(maps.Keys(blobSizes())) {
		all = append(all, sized(size), sized(0, size, 2), sized(size, size), sized(65, size, 65))
	}
	return append(all, sized(65, 65, 65), sized(65, 65, 65, 46), sized(65, 65, 65, 47), sized(65, 65, 65, 45, 0), sized(47, 0, 65, 65, 62), sized(make([]int, impl.MaxAddr)...), sized(append(make([]int, impl.MaxAddr-4), 47, 48, 48, 65)...))
}

// spreadPacks are some of the right ones, those at both ends with them: each is tried in many ways.
func spreadPacks() []impl.Pack {
	all := rightPacks()
	some := slices.Concat(all[:6], all[len(all)-7:])
	for i := 6; i < len(all)-7; i += 7 {
		some = append(some, all[i])
	}
	return some
}

func TestPackOk(t *testing.T) {
	for _, p := range rightPacks() {
		if !slowPackOk(p) || !impl.PackOk(p) {
			t.Fatalf("%v: %v, not PackOk", p, slowPackOk(p))
		}
		if size := impl.PackSize(p); size != slowPackSize(p) {
			t.Fatalf("%v: PackSize is %d, want %d", p, size, slowPackSize(p))
		}
	}
	for name, p := range wrongPacks() {
		if slowPackOk(p) || impl.PackOk(p) {
			t.Fatalf("%s: %v is PackOk", name, p)
		}
	}
}

func TestPackSizeByHand(t *testing.T) {
	for _, c := range []struct {
		p    impl.Pack
		size int
	}{
		{impl.Pack{}, 6},
		{packOf(impl.MaxEpoch, impl.MaxEpoch), 6},
		{sized(0), 8},
		{sized(2), 10},
		{sized(65), 73},
		{sized(make([]int, 16)...), 38},
		{crowded(16), 70},
		{sized(65, 65, 65, 45), 254},
		{sized(65, 65, 65, 46), 255},
		{sized(65, 65, 65, 47), 256},
		{sized(65, 65, 65, 48), 0},
		{sized(65, 65, 65, 45, 0), 256},
		{sized(65, 65, 65, 46, 0), 0},
		{packOf(impl.MaxEpoch+1, 0), 0},
		{packOf(0, -1), 0},
	} {
		if size := impl.PackSize(c.p); size != c.size || impl.PackOk(c.p) != (c.size > 0) {
			t.Fatalf("%v: PackSize is %d, want %d", c.p, size, c.size)
		}
	}
}

func TestWrongPacksAreRefused(t *testing.T) {
	for name, p := range wrongPacks() {
		if size := impl.PackSize(p); size != 0 {
			t.Fatalf("%s: PackSize of %v is %d", name, p, size)
		}
		b, ok := impl.PackBytes(p)
		wantNoBytes(t, name, b, ok)
		for addr := -1; addr <= impl.MaxAddr; addr++ {
			if n := impl.PackFind(p, addr); n != -1 {
				t.Fatalf("%s: PackFind of %v at %d is %d, want -1", name, p, addr, n)
			}
			for _, blob := range [][]byte{nil, runOf(1), blobOf(maxBlob), {9, 9}} {
				got, ok := impl.PackAdd(p, impl.Item{Addr: addr, Blob: blob})
				wantNoPack(t, name, got, ok)
			}
		}
	}
}

// packComesBack holds the bytes of a pack that is right against the model, and what they are read as against the pack.
func packComesBack(t *testing.T, p impl.Pack) {
	t.Helper()
	b, ok := impl.PackBytes(p)
	if !ok || !bytes.Equal(b, slowPackBytes(p)) {
		t.Fatalf("PackBytes of %v: %v %v, want %v true", p, b, ok, slowPackBytes(p))
	}
	got, ok := impl.PackRead(b)
	wantPack(t, "what comes back", got, ok, p)
}

func TestPacksComeBack(t *testing.T) {
	for _, p := range rightPacks() {
		packComesBack(t, p)
	}
	sizes := slices.Sorted(maps.Keys(blobSizes()))
	for seed := range uint64(400) {
		p := packOf(picked(1, impl.MaxEpoch, seed)[0], picked(1, impl.MaxEpoch, seed+1000)[0])
		for i, which := range picked(impl.MaxAddr, len(sizes)-1, seed) {
			more := clonedPack(p)
			more.Items = append(more.Items, impl.Item{Addr: (5*i + int(seed)) % impl.MaxAddr, Blob: blobOf(sizes[which])})
			if slowPackOk(more) {
				p = more
			}
		}
		packComesBack(t, p)
	}
}

func TestPackOfEachNumberComesBack(t *testing.T) {
	for n := 0; n <= impl.MaxEpoch; n += 7 {
		packComesBack(t, packOf(n, impl.MaxEpoch-n, crowded(1).Items...))
	}
}

// sectorBy has noughts behind what it is given.
func sectorBy(parts ...[]byte) []byte {
	b := slices.Concat(parts...)
	return append(b, make([]byte, max(0, impl.RawBytes-len(b)))...)
}

// What the document says is written out here by hand.
func TestPackBytesByHand(t *testing.T) {
	raw := append([]byte{0}, apart(impl.BlockBytes)...)
	for _, c := range []struct {
		p impl.Pack
		b []byte
	}{
		{impl.Pack{}, []byte("P\x00\x00\x00\x00\x00")},
		{packOf(258, 3), []byte("P\x01\x02\x00\x03\x00")},
		{packOf(60000, 59999), []byte("P\xea\x60\xea\x5f\x00")},
		{packOf(0, 0, impl.Item{}), []byte("P\x00\x00\x00\x00\x01\x00\x00")},
		{packOf(0, 0, impl.Item{Addr: 15, Blob: []byte{}}), []byte("P\x00\x00\x00\x00\x01\x0f\x00")},
		{packOf(1, 2, impl.Item{Addr: 9, Blob: runOf(77)}), []byte("P\x00\x01\x00\x02\x01\x09\x02\x01\x4d")},
		{packOf(1, 2, impl.Item{Addr: 9, Blob: runOf(0)}), []byte("P\x00\x01\x00\x02\x01\x09\x02\x01\x00")},
		{packOf(1, 2, impl.Item{Addr: 9, Blob: runOf(7)}, impl.Item{Addr: 3}, impl.Item{Addr: 0, Blob: runOf(8)}), []byte("P\x00\x01\x00\x02\x03\x09\x02\x03\x00\x00\x02\x01\x07\x01\x08")},
		{packOf(1, 2, impl.Item{Addr: 4, Blob: raw}, impl.Item{Addr: 5, Blob: runOf(8)}), slices.Concat([]byte("P\x00\x01\x00\x02\x02\x04\x41\x05\x02"), raw, []byte{1, 8})},
	} {
		if !bytes.Equal(slowPackBytes(c.p), sectorBy(c.b)) {
			t.Fatalf("the model: %v", c.p)
		}
		packComesBack(t, c.p)
	}
}

// spoiltAt has other values from a place on.
func spoiltAt(from []byte, at int, values ...byte) []byte {
	b := bytes.Clone(from)
	copy(b[at:], values)
	return b
}

// readIsItsPack tells whether a sector is read as a pack, as the model has it; what is read has just this sector.
func readIsItsPack(t *testing.T, name string, b []byte) bool {
	t.Helper()
	got, ok := impl.PackRead(b)
	want, right := slowPackRead(b)
	if !right {
		wantNoPack(t, fmt.Sprint(name, ": PackRead of ", b), got, ok)
		return false
	}
	wantPack(t, fmt.Sprint(name, ": PackRead of ", b), got, ok, want)
	again, ok := impl.PackBytes(got)
	if !ok || !bytes.Equal(again, b) {
		t.Fatalf("%s: %v is read as %v, whose bytes are %v", name, b, got, again)
	}
	return true
}

func TestWhateverIsReadIsJustIts(t *testing.T) {
	read := 0
	for i, p := range spreadPacks() {
		whole := slowPackBytes(p)
		for at := range whole {
			for _, v := range []byte{0, 1, whole[at] + 1, whole[at] - 1, whole[at] ^ 0x80, 16, 'P', byte(i), 255} {
				b := bytes.Clone(whole)
				b[at] = v
				if readIsItsPack(t, fmt.Sprint("byte ", at), b) && v != whole[at] {
					read++
				}
			}
		}
	}
	if read < 1000 {
		t.Fatalf("only %d spoilt sectors are read", read)
	}
}

// eachHead calls do with all sectors of which one of the first bytes has another value, alone, and with some values at some others.
func eachHead(whole []byte, others []int, values []byte, do func(name string, b []byte)) {
	for at := range 12 {
		for v := range 256 {
			b := spoiltAt(whole, at, byte(v))
			do(fmt.Sprintf("byte %d is %d", at, v), b)
			for _, other := range others {
				for _, w := range values {
					do(fmt.Sprintf("byte %d is %d, %d is %d", at, v, other, w), spoiltAt(b, other, w))
				}
			}
		}
	}
}

// The bytes that tell of all others have each value, alone and two at a time.
func TestHeadsOfEachValue(t *testing.T) {
	for _, p := range []impl.Pack{packOf(0xEA50, 0xEA60), sized(0), sized(2, 0, 2), crowded(16), sized(65, 65, 65, 47)} {
		eachHead(slowPackBytes(p), []int{5, 7}, []byte{0, 1, 2}, func(name string, b []byte) { readIsItsPack(t, name, b) })
	}
}

func TestPackReadOfAnySector(t *testing.T) {
	read := 0
	for seed := range 2000 {
		b := sectorOf(seed)
		readIsItsPack(t, "any bytes", b)
		b[0] = 'P'
		readIsItsPack(t, "any bytes behind P", b)
		b[1], b[3], b[5] = b[1]%234, b[3]%234, b[5]%17
		readIsItsPack(t, "any bytes behind a right head", b)
		for _, few := range []int{6, 7, 8, 9, 10, 11, 12, 13, 14} {
			c := sectorBy(b[:few])
			c[5], c[6], c[7], c[8], c[9] = c[5]%3, c[6]%20, c[7]%3, c[8]%4, c[9]%3
			if readIsItsPack(t, "few bytes", c) {
				read++
			}
		}
	}
	if read < 1000 {
		t.Fatalf("only %d sectors are read", read)
	}
}

// refusedSectors are no pack's, nearly all for one reason alone.
func refusedSectors() map[string][]byte {
	whole := slowPackBytes(sized(2, 47, 0))
	full := slowPackBytes(sized(65, 65, 65, 47))
	all := map[string][]byte{
		"nothing":                           nil,
		"an empty list":                     {},
		"P alone":                           {'P'},
		"a head alone":                      whole[:6],
		"what it has, without the noughts":  whole[:61],
		"a byte too short":                  whole[:255],
		"a byte too long":                   append(bytes.Clone(whole), 0),
		"a sector and another one":          slices.Concat(whole, whole),
		"a full one, a byte too short":      full[:255],
		"a full one, a nought too long":     append(bytes.Clone(full), 0),
		"noughts":                           make([]byte, impl.RawBytes),
		"another letter":                    spoiltAt(whole, 0, 'p'),
		"the letter ahead":                  spoiltAt(whole, 0, 'O'),
		"the letter of a map":               spoiltAt(whole, 0, 'M'),
		"an Epoch too great":                spoiltAt(whole, 1, 0xEA, 0x61),
		"the greatest Epoch of two bytes":   spoiltAt(whole, 1, 255, 255),
		"an Order too great":                spoiltAt(whole, 3, 0xEA, 0x61),
		"the greatest Order of two bytes":   spoiltAt(whole, 3, 255, 255),
		"an Item less, its Blob behind":     spoiltAt(slowPackBytes(sized(2)), 5, 0),
		"an empty Item less, its Addr left": spoiltAt(slowPackBytes(crowded(1)), 5, 0, 0, 0),
		"256 bytes of P":                    bytes.Repeat([]byte("P"), impl.RawBytes),
		"17 Items of no bytes":              sectorBy([]byte("P\x00\x00\x00\x00\x11")),
		"255 Items":                         sectorBy([]byte("P\x00\x00\x00\x00\xff")),
		"125 heads up to the end":           sectorBy([]byte("P\x00\x00\x00\x00\x7d")),
		"126 heads past the end":            sectorBy([]byte("P\x00\x00\x00\x00\x7e")),
		"a Blob up to the end":              sectorBy([]byte("P\x00\x00\x00\x00\x01\x00\xf8")),
		"a Blob past the end":               sectorBy([]byte("P\x00\x00\x00\x00\x01\x00\xf9")),
		"a Blob far past the end":           sectorBy([]byte("P\x00\x00\x00\x00\x01\x00\xff")),
		"Blobs that are past the end":       sectorBy([]byte("P\x00\x00\x00\x00\x04"), bytes.Repeat([]byte{0, 65}, 4)),
		"Addr MaxAddr":                      sectorBy([]byte("P\x00\x00\x00\x00\x01\x10\x00")),
		"Addr 255":                          sectorBy([]byte("P\x00\x00\x00\x00\x01\xff\x00")),
		"one Addr twice":                    sectorBy([]byte("P\x00\x00\x00\x00\x02\x03\x00\x03\x00")),
		"one Addr twice, with a Blob each":  sectorBy([]byte("P\x00\x00\x00\x00\x02\x03\x02\x03\x02\x01\x07\x01\x08")),
		"a full one, the last too long":     spoiltAt(full, 13, 48),
		"a full one, the last too short":    spoiltAt(full, 13, 46),
		"a full one, an Item less":          spoiltAt(full, 5, 3),
		"a full one, an Item more":          spoiltAt(full, 5, 5),
	}
	for at := 61; at < impl.RawBytes; at++ {
		all[fmt.Sprint("something in the rest at ", at)] = spoiltAt(whole, at, 1)
	}
	for name, blob := range wrongBlobs() {
		if len(blob) <= 242 {
			all[name] = sectorBy([]byte{'P', 0, 1, 0, 2, 2, 3, 2, 4, byte(len(blob))}, runOf(7), blob)
			all[name+", ahead"] = sectorBy([]byte{'P', 0, 1, 0, 2, 2, 3, byte(len(blob)), 4, 2}, blob, runOf(7))
		}
	}
	return all
}

func TestPackReadRefuses(t *testing.T) {
	for name, b := range refusedSectors() {
		if readIsItsPack(t, name, b) {
			t.Fatalf("%s: %v is read", name, b)
		}
	}
	full := slowPackBytes(sized(65, 65, 65, 47))
	for size := range 600 {
		for _, b := range [][]byte{full, slowPackBytes(impl.Pack{}), make([]byte, 256)} {
			long := append(bytes.Clone(b), make([]byte, 600)...)
			if readIsItsPack(t, fmt.Sprint(size, " bytes"), long[:size]) != (size == impl.RawBytes && b[0] == 'P') {
				t.Fatalf("%d bytes of %v", size, b)
			}
		}
	}
}

// addHolds holds what PackAdd tells against the model, and what is found then at each Addr against what was there.
func addHolds(t *testing.T, p impl.Pack, x impl.Item) impl.Pack {
	t.Helper()
	got, ok := impl.PackAdd(p, x)
	want, right := slowAdd(p, x)
	if ok != right || !samePack(got, want) {
		t.Fatalf("PackAdd of %v to %v: %v %v, want %v %v", x, p, got, ok, want, right)
	}
	if !right {
		return got
	}
	packComesBack(t, got)
	if n := impl.PackFind(got, x.Addr); n != len(got.Items)-1 || !sameItem(got.Items[n], x) {
		t.Fatalf("PackAdd of %v to %v: found at %d", x, p, n)
	}
	for addr := range impl.MaxAddr {
		before, now := impl.PackFind(p, addr), impl.PackFind(got, addr)
		if addr == x.Addr {
			continue
		}
		if (before < 0) != (now < 0) || before >= 0 && !sameItem(p.Items[before], got.Items[now]) {
			t.Fatalf("PackAdd of %v to %v: at %d was %d, is %d", x, p, addr, before, now)
		}
	}
	return got
}

func TestPackAddIsFound(t *testing.T) {
	for _, p := range spreadPacks() {
		for addr := range impl.MaxAddr {
			for _, size := range []int{0, 2, 20, 45, 46, 47, 48, 65} {
				addHolds(t, p, impl.Item{Addr: addr, Blob: blobOf(size)})
			}
		}
	}
}

func TestPackAddByHand(t *testing.T) {
	p := packOf(5, 6, impl.Item{Addr: 9, Blob: runOf(1)}, impl.Item{Addr: 2}, impl.Item{Addr: 4, Blob: runOf(2)})
	for _, c := range []struct {
		x    impl.Item
		want []impl.Item
	}{
		{impl.Item{Addr: 0}, append(slices.Clone(p.Items), impl.Item{})},
		{impl.Item{Addr: 15, Blob: runOf(3)}, append(slices.Clone(p.Items), impl.Item{Addr: 15, Blob: runOf(3)})},
		{impl.Item{Addr: 9, Blob: runOf(3)}, []impl.Item{p.Items[1], p.Items[2], {Addr: 9, Blob: runOf(3)}}},
		{impl.Item{Addr: 9}, []impl.Item{p.Items[1], p.Items[2], {Addr: 9}}},
		{impl.Item{Addr: 2, Blob: blobOf(65)}, []impl.Item{p.Items[0], p.Items[2], {Addr: 2, Blob: blobOf(65)}}},
		{impl.Item{Addr: 4, Blob: runOf(2)}, p.Items},
	} {
		got, ok := impl.PackAdd(p, c.x)
		wantPack(t, fmt.Sprint("PackAdd of ", c.x), got, ok, packOf(5, 6, c.want...))
	}
}

// Alike ones: the Item put last is the one that is found, whether it is shorter or longer.
func TestPackAddTwice(t *testing.T) {
	for _, n := range []int{0, 1, 5, 15, 16} {
		for addr := range impl.MaxAddr {
			p := addHolds(t, crowded(n), impl.Item{Addr: addr, Blob: runOf(100)})
			many := len(p.Items)
			for _, size := range []int{2, 0, 0, 20, 65, 65, 47, 2} {
				x := impl.Item{Addr: addr, Blob: blobOf(size)}
				p = addHolds(t, p, x)
				if last := p.Items[len(p.Items)-1]; len(p.Items) != many || !sameItem(last, x) {
					t.Fatalf("%v behind %v", p, x)
				}
			}
		}
	}
}

// What the Item of the same Addr had no longer counts for the size.
func TestPackAddUpToTheSize(t *testing.T) {
	item := func(addr int, size int) impl.Item { return impl.Item{Addr: addr, Blob: blobOf(size)} }
	for _, c := range []struct {
		name string
		p    impl.Pack
		x    impl.Item
		size int
	}{
		{"a byte less than full", sized(65, 65, 65), item(9, 46), 255},
		{"full", sized(65, 65, 65), item(9, 47), 256},
		{"a byte too many", sized(65, 65, 65), item(9, 48), 0},
		{"a Blob of its own in place, full", sized(65, 65, 65, 2), item(3, 47), 256},
		{"a Blob of its own in place, a byte too many", sized(65, 65, 65, 2), item(3, 48), 0},
		{"the same in a full one", sized(65, 65, 65, 47), item(3, 47), 256},
		{"a shorter one in a full one", sized(65, 65, 65, 47), item(0, 2), 193},
		{"none in a full one", sized(65, 65, 65, 47), item(0, 0), 191},
		{"a byte more in a full one", sized(65, 65, 65, 47), item(3, 48), 0},
		{"an empty one more in a full one", sized(65, 65, 65, 47), item(4, 0), 0},
		{"an empty one more with a byte left", sized(65, 65, 65, 46), item(4, 0), 0},
		{"an empty one more with two left", sized(65, 65, 65, 45), item(4, 0), 256},
	} {
		got := addHolds(t, c.p, c.x)
		if c.size == 0 {
			more, ok := impl.PackAdd(c.p, c.x)
			wantSamePack(t, c.name, more, ok, c.p)
		} else if size := impl.PackSize(got); size != c.size {
			t.Fatalf("%s: the size is %d, want %d", c.name, size, c.size)
		}
	}
}

// A wrong Item gets the zero value, where it would be too long, too: that reason is named first.
func TestPackAddRefusesWrongItems(t *testing.T) {
	for name, x := range wrongItems() {
		for _, p := range []impl.Pack{{}, crowded(1), crowded(16), sized(65, 65, 65, 46), sized(65, 65, 65, 47)} {
			got, ok := impl.PackAdd(p, x)
			wantNoPack(t, name, got, ok)
		}
	}
}

func TestPackIsFilledUp(t *testing.T) {
	for _, size := range []int{0, 2, 12} {
		p := packOf(1, 2)
		for i := range 3 * impl.MaxAddr {
			p = addHolds(t, p, impl.Item{Addr: 7 * i % impl.MaxAddr, Blob: blobOf(size)})
			if len(p.Items) != min(i+1, impl.MaxAddr) {
				t.Fatalf("%d Items behind %d", len(p.Items), i)
			}
		}
	}
	sizes := slices.Sorted(maps.Keys(blobSizes()))
	for seed := range uint64(40) {
		p := packOf(int(seed), 3)
		addrs, which := picked(60, impl.MaxAddr-1, seed), picked(60, len(sizes)-1, seed+9)
		for i := range addrs {
			p = addHolds(t, p, impl.Item{Addr: addrs[i], Blob: blobOf(sizes[which[i]])})
		}
	}
}

func TestPackFind(t *testing.T) {
	others := []int{math.MinInt, -256, -16, -1, impl.MaxAddr, impl.MaxAddr + 1, 256, 1 << 40, math.MaxInt}
	for _, p := range rightPacks() {
		want := map[int]int{}
		for i, x := range p.Items {
			want[x.Addr] = i
		}
		for addr := range impl.MaxAddr {
			n, ok := want[addr]
			if !ok {
				n = -1
			}
			if got := impl.PackFind(p, addr); got != n {
				t.Fatalf("PackFind of %v at %d is %d, want %d", p, addr, got, n)
			}
		}
		for _, addr := range others {
			if got := impl.PackFind(p, addr); got != -1 {
				t.Fatalf("PackFind of %v at %d is %d, want -1", p, addr, got)
			}
		}
	}
}

// blobsAreApart spoils one Blob after the other, with the room behind it, and looks at all others.
func blobsAreApart(t *testing.T, name string, p impl.Pack) {
	t.Helper()
	lists, before := blobsIn(p), blobsIn(clonedPack(p))
	for i := range lists {
		spoil(lists[i])
		for j := range lists {
			if j != i && !bytes.Equal(lists[j], before[j]) {
				t.Fatalf("%s: of %v the Blob %d changes with the Blob %d", name, p, j, i)
			}
		}
		spoil(lists[i])
	}
}

// roomyPack has spare room behind each Blob, and others behind the last Item.
func roomyPack(p impl.Pack) impl.Pack {
	room := clonedPack(p)
	room.Items = append(room.Items, impl.Item{Addr: 11, Blob: runOf(50)}, impl.Item{Addr: 12, Blob: runOf(51)})
	for i := range room.Items {
		room.Items[i].Blob, _ = fenced(room.Items[i].Blob)
	}
	return room
}

// wholePack shows what lies behind each list, too.
func wholePack(p impl.Pack) impl.Pack {
	c := packOf(p.Epoch, p.Order, slices.Clone(p.Items[:cap(p.Items)])...)
	for i, x := range c.Items {
		c.Items[i].Blob = x.Blob[:cap(x.Blob)]
	}
	return clonedPack(c)
}

func spoilPack(p impl.Pack) {
	items := p.Items[:cap(p.Items)]
	for i := range items {
		spoil(items[i].Blob)
		items[i] = impl.Item{Addr: 1000 + i, Blob: []byte{byte(i)}}
	}
}

// keepsPackApart calls do with a pack that has spare room, and tells where this or the answer are changed through one another.
func keepsPackApart(t *testing.T, name string, p impl.Pack, do func(p impl.Pack) impl.Pack) {
	t.Helper()
	room := roomyPack(p)
	before := wholePack(room)
	answer := do(packOf(p.Epoch, p.Order, room.Items[:len(p.Items)]...))
	if !samePack(wholePack(room), before) {
		t.Fatalf("%s of %v writes into its argument or behind it", name, p)
	}
	want := clonedPack(answer)
	if !samePack(want, do(clonedPack(p))) {
		t.Fatalf("%s of %v tells something else with spare room: %v", name, p, answer)
	}
	blobsAreApart(t, name, answer)
	spoilPack(room)
	if !samePack(answer, want) {
		t.Fatalf("%s of %v: the answer changes with the argument", name, p)
	}
	room = roomyPack(p)
	answer = do(packOf(p.Epoch, p.Order, room.Items[:len(p.Items)]...))
	spoilPack(answer)
	if !samePack(wholePack(room), before) {
		t.Fatalf("%s of %v: the argument changes with the answer", name, p)
	}
}

// asPack has a list of bytes as a Blob.
func asPack(b []byte) impl.Pack {
	return packOf(0, 0, impl.Item{Blob: b})
}

func TestPackArgumentsStay(t *testing.T) {
	for _, p := range append(rightPacks(), slices.Collect(maps.Values(wrongPacks()))...) {
		keepsPackApart(t, "PackOk", p, func(p impl.Pack) impl.Pack { impl.PackOk(p); return impl.Pack{} })
		keepsPackApart(t, "PackSize", p, func(p impl.Pack) impl.Pack { return packOf(impl.PackSize(p), 0) })
		keepsPackApart(t, "PackFind", p, func(p impl.Pack) impl.Pack { return packOf(impl.PackFind(p, 11), impl.PackFind(p, 0)) })
		keepsPackApart(t, "PackBytes", p, func(p impl.Pack) impl.Pack { b, _ := impl.PackBytes(p); return asPack(b) })
		for _, x := range []impl.Item{{}, {Addr: 11}, {Addr: 12, Blob: runOf(4)}, {Addr: 0, Blob: blobOf(48)}, {Addr: 15, Blob: blobOf(65)}, {Addr: 16}, {Addr: 3, Blob: []byte{9}}} {
			keepsPackApart(t, fmt.Sprint("PackAdd of ", x), p, func(p impl.Pack) impl.Pack { q, _ := impl.PackAdd(p, x); return q })
		}
	}
}

func TestPackItemStays(t *testing.T) {
	for _, p := range rightPacks() {
		for _, blob := range append(slices.Collect(maps.Values(wrongBlobs())), nil, runOf(7), blobOf(47), blobOf(48), blobOf(65)) {
			keepsBytesApart(t, "PackAdd", blob, func(b []byte) []byte {
				q, ok := impl.PackAdd(p, impl.Item{Addr: 8, Blob: b})
				if !ok {
					return nil
				}
				return q.Items[len(q.Items)-1].Blob
			})
		}
	}
}

func TestSectorOfAPackStays(t *testing.T) {
	all := slices.Collect(maps.Values(refusedSectors()))
	for _, p := range rightPacks() {
		all = append(all, slowPackBytes(p))
	}
	for _, b := range all {
		p, ok := impl.PackRead(b)
		for i := range max(1, len(p.Items)) {
			keepsBytesApart(t, "PackRead", b, func(b []byte) []byte {
				again, is := impl.PackRead(b)
				if is != ok || !samePack(again, p) {
					t.Fatalf("PackRead of %v with spare room: %v %v, want %v %v", b, again, is, p, ok)
				}
				if !ok || len(again.Items) == 0 {
					return nil
				}
				return again.Items[i].Blob
			})
		}
		blobsAreApart(t, "PackRead", p)
	}
}

// One Blob at all places of an argument: the answer has one for each.
func TestBlobsThatAreOneComeApart(t *testing.T) {
	one := runOf(9)
	p := crowded(9)
	for i := range p.Items {
		p.Items[i].Blob = one
	}
	for _, addr := range []int{0, 15, 9} {
		more, ok := impl.PackAdd(p, impl.Item{Addr: addr, Blob: one})
		if !ok {
			t.Fatal("not added")
		}
		blobsAreApart(t, "PackAdd", more)
		spoilPack(more)
	}
	refused := sized(65, 65, 65)
	for i := range refused.Items {
		refused.Items[i].Blob = refused.Items[0].Blob
	}
	same, ok := impl.PackAdd(refused, impl.Item{Addr: 7, Blob: blobOf(48)})
	wantSamePack(t, "too long", same, ok, refused)
	blobsAreApart(t, "PackAdd that refuses", same)
	b, _ := impl.PackBytes(p)
	spoil(b)
	if !bytes.Equal(one, runOf(9)) {
		t.Fatal("an argument changes with an answer")
	}
}

// What lies behind a list's length is none of it.
func TestPacksReadNoSpare(t *testing.T) {
	room := crowded(5)
	p := packOf(1, 2, room.Items[:3]...)
	if n := impl.PackFind(p, 12); n != -1 {
		t.Fatalf("an Item in the spare room is found: %d", n)
	}
	if size := impl.PackSize(p); size != 18 {
		t.Fatalf("the size is %d", size)
	}
	got, ok := impl.PackAdd(p, impl.Item{Addr: 12, Blob: runOf(70)})
	wantPack(t, "an Addr in the spare room", got, ok, packOf(1, 2, append(slices.Clone(p.Items), impl.Item{Addr: 12, Blob: runOf(70)})...))
	packComesBack(t, p)
	blob := runOf(7)
	for n := range 3 {
		got, ok := impl.PackAdd(p, impl.Item{Addr: 0, Blob: blob[:n]})
		if n == 1 {
			wantNoPack(t, "half a Blob", got, ok)
		} else {
			wantPack(t, "a Blob's beginning", got, ok, packOf(1, 2, append(slices.Clone(p.Items), impl.Item{Blob: blob[:n]})...))
		}
	}
	b := slowPackBytes(p)
	none, ok := impl.PackRead(b[:255])
	wantNoPack(t, "a nought in the spare room", none, ok)
	none, ok = impl.PackRead(b[:0])
	wantNoPack(t, "a sector in the spare room", none, ok)
}

// Nothing is kept: answers of one call are not those of another one, behind a refusal, too.
func TestPacksKeepNothing(t *testing.T) {
	p := crowded(5)
	b := slowPackBytes(p)
	first, _ := impl.PackRead(b)
	spoilPack(first)
	got, ok := impl.PackRead(b)
	wantPack(t, "PackRead again", got, ok, p)
	for name, wrong := range refusedSectors() {
		none, ok := impl.PackRead(wrong)
		wantNoPack(t, name, none, ok)
		got, ok := impl.PackRead(b)
		wantPack(t, "behind "+name, got, ok, p)
	}
	one, _ := impl.PackAdd(p, impl.Item{Addr: 0, Blob: runOf(60)})
	other, _ := impl.PackAdd(p, impl.Item{Addr: 1, Blob: runOf(61)})
	spoilPack(one)
	wantPack(t, "one of two", other, true, packOf(300, 513, append(crowded(5).Items, impl.Item{Addr: 1, Blob: runOf(61)})...))
	bytesOnce, _ := impl.PackBytes(p)
	spoil(bytesOnce)
	packComesBack(t, p)
}
