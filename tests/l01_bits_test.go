package tests

import (
	"bytes"
	"fmt"
	"math"
	"testing"

	"loop.example/g00528/impl"
)

// bitList is the plainest picture of bits: one bool each, the first one first.
type bitList []bool

func (l bitList) bits() impl.Bits {
	b := make([]byte, (len(l)+7)/8)
	for i, one := range l {
		if one {
			b[i/8] += 1 << (i % 8)
		}
	}
	return impl.Bits{B: b, N: len(l)}
}

func (l bitList) number() int {
	n := 0
	for i := len(l) - 1; i >= 0; i-- {
		n *= 2
		if l[i] {
			n++
		}
	}
	return n
}

func listOf(n int, width int) bitList {
	var l bitList
	for range width {
		l = append(l, n%2 == 1)
		n /= 2
	}
	return l
}

func joined(a bitList, b bitList) bitList {
	return append(append(bitList{}, a...), b...)
}

// mixed gives n bits that look like no pattern, others for each seed.
func mixed(n int, seed uint64) bitList {
	l := make(bitList, n)
	s := seed*2654435761 + 12345
	for i := range l {
		s = s*6364136223846793005 + 1442695040888963407
		l[i] = s>>63 == 1
	}
	return l
}

func ones(n int) bitList {
	l := make(bitList, n)
	for i := range l {
		l[i] = true
	}
	return l
}

// lengths are where bytes begin and end, and where the bits' limit is near.
func lengths() []int {
	l := []int{}
	for n := range 70 {
		l = append(l, n)
	}
	for n := impl.MaxBits - 34; n <= impl.MaxBits; n++ {
		l = append(l, n)
	}
	return l
}

func sameBits(a impl.Bits, b impl.Bits) bool {
	return a.N == b.N && bytes.Equal(a.B, b.B)
}

func wantBits(t *testing.T, name string, got impl.Bits, ok bool, want bitList) {
	t.Helper()
	if !ok || !sameBits(got, want.bits()) {
		t.Fatalf("%s: %v %v, want %v true", name, got, ok, want.bits())
	}
	if !impl.BitsOk(got) {
		t.Fatalf("%s: %v is not BitsOk", name, got)
	}
}

func wantNoBits(t *testing.T, name string, got impl.Bits, ok bool) {
	t.Helper()
	if ok || got.N != 0 || len(got.B) != 0 {
		t.Fatalf("%s: %v %v, want the zero value and false", name, got, ok)
	}
}

func wantPlace(t *testing.T, name string, n int, place int, wantN int, wantPlace int) {
	t.Helper()
	if n != wantN || place != wantPlace {
		t.Fatalf("%s: %d %d, want %d %d", name, n, place, wantN, wantPlace)
	}
}

func wantNoBytes(t *testing.T, name string, got []byte, ok bool) {
	t.Helper()
	if ok || len(got) != 0 {
		t.Fatalf("%s: %v %v, want nothing and false", name, got, ok)
	}
}

// wrongBits are not BitsOk, each for one reason.
func wrongBits() map[string]impl.Bits {
	return map[string]impl.Bits{
		"N is -1":                       {N: -1},
		"N is -1 beside a byte":         {B: []byte{0}, N: -1},
		"N is -8 beside a byte":         {B: []byte{0}, N: -8},
		"N is the least int":            {N: math.MinInt},
		"N is the greatest int":         {N: math.MaxInt},
		"N is the greatest int, a byte": {B: []byte{0}, N: math.MaxInt},
		"N is one above MaxBits":        {B: make([]byte, impl.MaxBits/8+1), N: impl.MaxBits + 1},
		"N is a byte above MaxBits":     {B: make([]byte, impl.MaxBits/8+1), N: impl.MaxBits + 8},
		"N is above, bytes are not":     {B: make([]byte, impl.MaxBits/8), N: impl.MaxBits + 1},
		"no byte for 1 bit":             {N: 1},
		"no byte for 8 bits":            {N: 8},
		"one byte for 9 bits":           {B: []byte{255}, N: 9},
		"a byte too few for MaxBits":    {B: make([]byte, impl.MaxBits/8-1), N: impl.MaxBits},
		"a byte for no bits":            {B: []byte{0}},
		"two bytes for 8 bits":          {B: []byte{255, 0}, N: 8},
		"three bytes for 9 bits":        {B: []byte{255, 1, 0}, N: 9},
		"a byte too many for MaxBits":   {B: make([]byte, impl.MaxBits/8+1), N: impl.MaxBits},
		"the bit behind 1 bit":          {B: []byte{2}, N: 1},
		"the bit behind 11 bits":        {B: []byte{13, 8}, N: 11},
		"the last bit behind 11 bits":   {B: []byte{13, 128}, N: 11},
		"the bit behind 7 bits":         {B: []byte{128}, N: 7},
		"the bit behind MaxBits - 1":    {B: bytes.Repeat([]byte{255}, impl.MaxBits/8), N: impl.MaxBits - 1},
		"a bit 1 for no bits":           {B: []byte{1}},
	}
}

func TestBitsOkAgainstPicture(t *testing.T) {
	for _, n := range lengths() {
		for _, l := range []bitList{make(bitList, n), ones(n), mixed(n, 1)} {
			if !impl.BitsOk(l.bits()) {
				t.Fatalf("%d bits are refused: %v", n, l.bits())
			}
		}
	}
	for n := -2; n <= 18; n++ {
		for v := range 1 << 16 {
			all := []byte{byte(v), byte(v >> 8)}
			for size := range 3 {
				if v>>(8*size) != 0 {
					continue
				}
				want := n >= 0 && size == (n+7)/8 && v>>max(n, 0) == 0
				if got := impl.BitsOk(impl.Bits{B: all[:size], N: n}); got != want {
					t.Fatalf("BitsOk(%v, %d) is %v", all[:size], n, got)
				}
			}
		}
	}
	if !impl.BitsOk(impl.Bits{}) || !impl.BitsOk(impl.Bits{B: []byte{}}) {
		t.Fatal("no bits are refused")
	}
}

func TestBitsOkRefuses(t *testing.T) {
	for name, x := range wrongBits() {
		if impl.BitsOk(x) {
			t.Errorf("%s: accepted", name)
		}
	}
}

// The bits behind a list's length are none of its own, whatever they are.
func TestBitsOkReadsNoSpare(t *testing.T) {
	b := []byte{5, 255, 255}
	if !impl.BitsOk(impl.Bits{B: b[:1], N: 3}) || !impl.BitsOk(impl.Bits{B: b[:0], N: 0}) {
		t.Fatal("spare room is read")
	}
	if impl.BitsOk(impl.Bits{B: b[:1], N: 9}) {
		t.Fatal("spare room is taken for a byte")
	}
}

func TestBitsPutAllWidths(t *testing.T) {
	for _, have := range lengths() {
		front := mixed(have, uint64(have))
		for width := 0; width <= 30; width++ {
			for _, n := range []int{0, 1<<width - 1, mixed(width, 7).number(), 1 << width / 2} {
				if n >= 1<<width {
					continue
				}
				name := fmt.Sprintf("put %d in %d bits behind %d", n, width, have)
				x, ok := impl.BitsPut(front.bits(), n, width)
				if have+width > impl.MaxBits {
					wantNoBits(t, name, x, ok)
					continue
				}
				wantBits(t, name, x, ok, joined(front, listOf(n, width)))
				got, next := impl.BitsGet(x, have, width)
				wantPlace(t, name+", got", got, next, n, have+width)
				got, from := impl.BackGet(x, have+width, width)
				wantPlace(t, name+", got from behind", got, from, n, have)
			}
		}
	}
}

func TestBitsPutRefuses(t *testing.T) {
	x := mixed(11, 3).bits()
	for width := 0; width <= 30; width++ {
		for _, n := range []int{-1, 1 << width, 1<<width + 1, math.MinInt, math.MaxInt} {
			y, ok := impl.BitsPut(x, n, width)
			wantNoBits(t, fmt.Sprintf("number %d in %d bits", n, width), y, ok)
		}
	}
	for _, width := range []int{-1, 31, 32, 62, 63, 64, 65, math.MinInt, math.MaxInt} {
		for _, n := range []int{0, 1, -1} {
			y, ok := impl.BitsPut(x, n, width)
			wantNoBits(t, fmt.Sprintf("width %d, number %d", width, n), y, ok)
		}
	}
	for name, wrong := range wrongBits() {
		y, ok := impl.BitsPut(wrong, 0, 0)
		wantNoBits(t, name, y, ok)
		y, ok = impl.BitsPut(wrong, 1, 1)
		wantNoBits(t, name, y, ok)
	}
}

func TestBitsPutUpToMaxBits(t *testing.T) {
	all := mixed(impl.MaxBits, 5)
	x := impl.Bits{}
	at := 0
	for step := 0; at < impl.MaxBits; step++ {
		width := min(step%31, impl.MaxBits-at)
		var ok bool
		x, ok = impl.BitsPut(x, all[at:at+width].number(), width)
		at += width
		wantBits(t, fmt.Sprint("put up to ", at), x, ok, all[:at])
	}
	y, ok := impl.BitsPut(x, 0, 0)
	wantBits(t, "no bits behind MaxBits", y, ok, all)
	y, ok = impl.BitsPut(x, 0, 1)
	wantNoBits(t, "a bit behind MaxBits", y, ok)
	y, ok = impl.BitsPut(all[:impl.MaxBits-29].bits(), 0, 30)
	wantNoBits(t, "one bit too many", y, ok)
}

func TestGetAtEveryPlace(t *testing.T) {
	for _, size := range []int{0, 1, 7, 8, 9, 40, impl.MaxBits} {
		l := mixed(size, 9)
		x := l.bits()
		for at := -2; at <= size+32; at++ {
			for width := -1; width <= 31; width++ {
				name := fmt.Sprintf("%d bits at %d of %d", width, at, size)
				fine := width >= 0 && width <= 30
				n, next := impl.BitsGet(x, at, width)
				if fine && at >= 0 && at+width <= size {
					wantPlace(t, name, n, next, l[at:at+width].number(), at+width)
				} else {
					wantPlace(t, name, n, next, 0, -1)
				}
				n, from := impl.BackGet(x, at, width)
				if fine && at <= size && at >= width {
					wantPlace(t, name+" from behind", n, from, l[at-width:at].number(), at-width)
				} else {
					wantPlace(t, name+" from behind", n, from, 0, -1)
				}
			}
		}
	}
}

func TestGetRefuses(t *testing.T) {
	x := mixed(40, 2).bits()
	far := []int{math.MinInt, math.MinInt + 1, -1, 41, math.MaxInt - 30, math.MaxInt - 1, math.MaxInt}
	for _, at := range far {
		for _, width := range []int{0, 1, 30, math.MaxInt, math.MinInt} {
			name := fmt.Sprintf("%d bits at %d", width, at)
			n, next := impl.BitsGet(x, at, width)
			wantPlace(t, name, n, next, 0, -1)
			n, from := impl.BackGet(x, at, width)
			wantPlace(t, name+" from behind", n, from, 0, -1)
		}
	}
	for _, width := range []int{math.MinInt, -1, 31, 32, 64, math.MaxInt} {
		n, next := impl.BitsGet(x, 0, width)
		wantPlace(t, fmt.Sprint("width ", width), n, next, 0, -1)
		n, from := impl.BackGet(x, 40, width)
		wantPlace(t, fmt.Sprint("width ", width, " from behind"), n, from, 0, -1)
	}
	for name, wrong := range wrongBits() {
		n, next := impl.BitsGet(wrong, 0, 0)
		wantPlace(t, name, n, next, 0, -1)
		n, from := impl.BackGet(wrong, 0, 0)
		wantPlace(t, name+" from behind", n, from, 0, -1)
	}
}

func TestBitsJoin(t *testing.T) {
	for _, first := range lengths() {
		for _, second := range lengths() {
			a, b := mixed(first, 11), mixed(second, 13)
			name := fmt.Sprintf("%d and %d bits", first, second)
			x, ok := impl.BitsJoin(a.bits(), b.bits())
			if first+second > impl.MaxBits {
				wantNoBits(t, name, x, ok)
			} else {
				wantBits(t, name, x, ok, joined(a, b))
			}
		}
	}
}

func TestBitsJoinRefuses(t *testing.T) {
	half := impl.MaxBits / 2
	x, ok := impl.BitsJoin(ones(half).bits(), ones(half).bits())
	wantBits(t, "just MaxBits", x, ok, ones(2*half))
	x, ok = impl.BitsJoin(ones(half+1).bits(), ones(half).bits())
	wantNoBits(t, "the first one bit too long", x, ok)
	x, ok = impl.BitsJoin(ones(half).bits(), ones(half+1).bits())
	wantNoBits(t, "the second one bit too long", x, ok)
	for name, wrong := range wrongBits() {
		x, ok = impl.BitsJoin(wrong, impl.Bits{})
		wantNoBits(t, name+", first", x, ok)
		x, ok = impl.BitsJoin(impl.Bits{}, wrong)
		wantNoBits(t, name+", second", x, ok)
		x, ok = impl.BitsJoin(wrong, wrong)
		wantNoBits(t, name+", both", x, ok)
	}
}

func TestSealedIsOpened(t *testing.T) {
	for _, n := range lengths() {
		for _, l := range []bitList{make(bitList, n), ones(n), mixed(n, 17)} {
			b, ok := impl.BitsSeal(l.bits())
			if want := joined(l, bitList{true}).bits().B; !ok || !bytes.Equal(b, want) {
				t.Fatalf("BitsSeal of %v: %v %v, want %v", l.bits(), b, ok, want)
			}
			x, ok := impl.BitsOpen(b)
			wantBits(t, fmt.Sprint("opened: ", n), x, ok, l)
		}
	}
}

func TestBitsSealRefuses(t *testing.T) {
	for name, wrong := range wrongBits() {
		b, ok := impl.BitsSeal(wrong)
		wantNoBytes(t, name, b, ok)
	}
}

// Each byte string is opened just if it has an end, and is its own seal then.
func TestOpenedIsSealed(t *testing.T) {
	for v := range 1 << 16 {
		opensAsItsOwn(t, []byte{byte(v), byte(v >> 8)})
		if v < 1<<8 {
			opensAsItsOwn(t, []byte{byte(v)})
			opensAsItsOwn(t, append(bytes.Repeat([]byte{165}, 100), byte(v)))
		}
	}
}

func opensAsItsOwn(t *testing.T, b []byte) {
	t.Helper()
	x, ok := impl.BitsOpen(b)
	if b[len(b)-1] == 0 {
		wantNoBits(t, fmt.Sprint("no end: ", b), x, ok)
		return
	}
	again, sealed := impl.BitsSeal(x)
	if !ok || !impl.BitsOk(x) || !sealed || !bytes.Equal(again, b) {
		t.Fatalf("%v is opened as %v %v, sealed as %v %v", b, x, ok, again, sealed)
	}
}

func TestBitsOpenRefuses(t *testing.T) {
	full := impl.MaxBits / 8
	for name, b := range map[string][]byte{
		"nil":                             nil,
		"no bytes":                        {},
		"a nought":                        {0},
		"noughts":                         make([]byte, 20),
		"a nought behind an end":          {7, 1, 0},
		"one bit more than MaxBits":       append(make([]byte, full), 2),
		"bits 1, one more than MaxBits":   append(bytes.Repeat([]byte{255}, full), 3),
		"seven bits more than MaxBits":    append(make([]byte, full), 128),
		"eight bits more than MaxBits":    append(make([]byte, full+1), 1),
		"a nought behind the bytes":       make([]byte, full+1),
		"many more bytes":                 bytes.Repeat([]byte{1}, 100*full),
		"noughts, more than MaxBits want": make([]byte, 100*full),
	} {
		x, ok := impl.BitsOpen(b)
		wantNoBits(t, name, x, ok)
	}
	x, ok := impl.BitsOpen(append(bytes.Repeat([]byte{255}, full), 1))
	wantBits(t, "just MaxBits", x, ok, ones(impl.MaxBits))
	x, ok = impl.BitsOpen([]byte{1})
	wantBits(t, "no bits", x, ok, bitList{})
	room := []byte{5, 1, 0}
	x, ok = impl.BitsOpen(room[:2])
	wantBits(t, "a nought in the spare room", x, ok, listOf(5, 8))
	x, ok = impl.BitsOpen(room[:0])
	wantNoBits(t, "an end in the spare room", x, ok)
}

// fenced gives a list with b's bytes and spare room behind it, and the whole room.
func fenced(b []byte) ([]byte, []byte) {
	room := append(append([]byte{}, b...), bytes.Repeat([]byte{0xA5}, 40)...)
	return room[:len(b)], room
}

func spoil(b []byte) {
	b = b[:cap(b)]
	for i := range b {
		b[i] ^= 0xFF
	}
}

// keepsApart calls do with bits that have spare room, and tells where these or the answer are changed through one another.
func keepsApart(t *testing.T, name string, l bitList, do func(x impl.Bits) []byte) {
	t.Helper()
	list, room := fenced(l.bits().B)
	before := bytes.Clone(room)
	answer := do(impl.Bits{B: list, N: len(l)})
	if !bytes.Equal(room, before) {
		t.Fatalf("%s of %d bits writes into its argument or behind it", name, len(l))
	}
	told := bytes.Clone(answer)
	spoil(room)
	if !bytes.Equal(answer, told) {
		t.Fatalf("%s of %d bits: the answer changes with the argument", name, len(l))
	}
	spoiled := bytes.Clone(room)
	spoil(answer)
	if !bytes.Equal(room, spoiled) {
		t.Fatalf("%s of %d bits: the argument changes with the answer", name, len(l))
	}
}

func putBytes(n int, width int) func(impl.Bits) []byte {
	return func(x impl.Bits) []byte {
		y, _ := impl.BitsPut(x, n, width)
		return y.B
	}
}

func joinBytes(other bitList, ahead bool) func(impl.Bits) []byte {
	return func(x impl.Bits) []byte {
		y, _ := impl.BitsJoin(x, other.bits())
		if ahead {
			y, _ = impl.BitsJoin(other.bits(), x)
		}
		return y.B
	}
}

func TestBitsArgumentsStay(t *testing.T) {
	for _, n := range []int{0, 1, 3, 7, 8, 9, 16, 23, 61, 64, impl.MaxBits - 8, impl.MaxBits - 1, impl.MaxBits} {
		l := mixed(n, 19)
		keepsApart(t, "BitsOk", l, func(x impl.Bits) []byte { impl.BitsOk(x); return nil })
		keepsApart(t, "BitsGet", l, func(x impl.Bits) []byte { impl.BitsGet(x, n/2, 8); return nil })
		keepsApart(t, "BackGet", l, func(x impl.Bits) []byte { impl.BackGet(x, n, 8); return nil })
		keepsApart(t, "BitsSeal", l, func(x impl.Bits) []byte { b, _ := impl.BitsSeal(x); return b })
		keepsApart(t, "BitsOpen", l, func(x impl.Bits) []byte { y, _ := impl.BitsOpen(x.B); return y.B })
		for _, width := range []int{0, 1, 7, 8, 9, 30} {
			keepsApart(t, fmt.Sprint("BitsPut in ", width), l, putBytes(1<<width-1, width))
			keepsApart(t, fmt.Sprint("BitsJoin behind, ", width), l, joinBytes(ones(width), false))
			keepsApart(t, fmt.Sprint("BitsJoin ahead, ", width), l, joinBytes(ones(width), true))
		}
		keepsApart(t, "BitsJoin with itself", l, func(x impl.Bits) []byte { y, _ := impl.BitsJoin(x, x); return y.B })
	}
}

// BitsOpen answers with whole bytes of what it was given: they must be its own.
func TestBitsOpenArgumentStays(t *testing.T) {
	for _, end := range []bitList{{}, {true}, ones(7), ones(8)} {
		sealed := joined(mixed(40, 23), end)
		sealed[len(sealed)-1] = true
		keepsApart(t, "BitsOpen", sealed, func(x impl.Bits) []byte { y, _ := impl.BitsOpen(x.B); return y.B })
	}
}

// Nothing is kept: an answer does not hang on the calls ahead of it.
func TestBitsKeepNothing(t *testing.T) {
	x := mixed(20, 29)
	a, _ := impl.BitsPut(x.bits(), 1, 1)
	b, _ := impl.BitsPut(x.bits(), 0, 1)
	if !sameBits(a, joined(x, bitList{true}).bits()) || !sameBits(b, joined(x, bitList{false}).bits()) {
		t.Fatal(a, b)
	}
	from, ok := impl.BitsPut(a, 3, 2)
	other, fine := impl.BitsPut(a, 0, 2)
	if !ok || !fine || !sameBits(from, joined(x, ones(3)).bits()) || !sameBits(other, joined(x, bitList{true, false, false}).bits()) {
		t.Fatal(from, other)
	}
}
