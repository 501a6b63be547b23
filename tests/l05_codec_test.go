package tests

import (
	"bytes"
	"fmt"
	"math"
	"slices"
	"strings"
	"testing"

	"loop.example/g00528/impl"
)

const (
	allSyms = 40
	maxBlob = impl.BlockBytes + 1
	lenSym  = 16
	distSym = 28
)

func slowClass(n int) int {
	k := 0
	for 2<<k <= n {
		k++
	}
	return k
}

// slowSymbols takes sequences that are right.
func slowSymbols(l []impl.Seq) ([]int, bitList) {
	syms, beside := []int{}, bitList{}
	number := func(n int, first int) {
		k := slowClass(n)
		syms = append(syms, first+k)
		beside = joined(beside, listOf(n-1<<k, k))
	}
	for _, s := range l {
		for _, v := range s.Lits {
			syms = append(syms, int(v)/16)
			beside = joined(beside, listOf(int(v)%16, 4))
		}
		if s.Len > 0 {
			number(s.Len-2, lenSym)
			number(s.Dist, distSym)
		}
	}
	return syms, beside
}

// slowUnsymbols takes what each symbol wants as long as it is there, and holds the symbols of what it read against all that it was given.
func slowUnsymbols(syms []int, beside bitList) ([]impl.Seq, bool) {
	left := beside
	number := func(k int) int {
		k = min(k, len(left))
		n := left[:k].number()
		left = left[k:]
		return n
	}
	l := []impl.Seq{{}}
	for _, s := range syms {
		last := &l[len(l)-1]
		switch {
		case s < 0 || s >= allSyms:
			return nil, false
		case s < lenSym:
			last.Lits = append(last.Lits, byte(16*s+number(4)))
		case s < distSym:
			last.Len = 1<<(s-lenSym) + number(s-lenSym) + 2
		default:
			last.Dist = 1<<(s-distSym) + number(s-distSym)
			l = append(l, impl.Seq{})
		}
	}
	if last := l[len(l)-1]; len(last.Lits) == 0 && last.Len == 0 {
		l = l[:len(l)-1]
	}
	if _, ok := slowExec(l); !ok || len(syms) > impl.MaxText {
		return nil, false
	}
	again, bits := slowSymbols(l)
	return l, slices.Equal(again, syms) && slices.Equal(bits, beside)
}

// sealedBlob is a mode, and parts one behind the other with a bit 1 at their end.
func sealedBlob(mode int, parts ...bitList) []byte {
	all := slices.Concat(parts...)
	return append([]byte{byte(mode)}, joined(all, bitList{true}).bits().B...)
}

func slowCounts(syms []int) []int {
	counts := make([]int, allSyms)
	for _, s := range syms {
		counts[s]++
	}
	return counts
}

func codesOfText(lens []int, text []int) bitList {
	texts := slowCodes(lens)
	l := bitList{}
	for _, s := range text {
		l = append(l, bitsOfText(texts[s])...)
	}
	return l
}

// partsBy are the parts of a blob that has these sequences.
func partsBy(mode int, l []impl.Seq) []bitList {
	syms, beside := slowSymbols(l)
	many := listOf(len(syms), 8)
	if mode == impl.MdHuff {
		lens := slowLens(slowCounts(syms), 12)
		return []bitList{many, slowLensBits(lens), codesOfText(lens, syms), beside}
	}
	norm := slowNorm(slowCounts(syms))
	return []bitList{many, slowNormBits(norm), listOf(len(beside), 9), beside, slowFsePut(norm, syms)}
}

func slowPacked(block []byte, mode int) ([]byte, bool) {
	switch {
	case mode == impl.MdRaw:
		return append([]byte{0}, block...), true
	case mode == impl.MdRun && bytes.Equal(block, bytes.Repeat(block[:1], 64)):
		return []byte{1, block[0]}, true
	case mode == impl.MdRun:
		return nil, false
	}
	return sealedBlob(mode, partsBy(mode, slowFind(block))...), true
}

// taker reads bits by the document's words; it gives up for good where there are too few.
type taker struct {
	left bitList
	over bool
}

func (r *taker) take(width int) bitList {
	if width > len(r.left) {
		r.over = true
		return make(bitList, width)
	}
	l := r.left[:width]
	r.left = r.left[width:]
	return l
}

func (r *taker) number(width int) int {
	return r.take(width).number()
}

func (r *taker) lens() ([]int, bool) {
	from := r.left
	lens := []int{}
	for len(lens) < allSyms && !r.over {
		lens = append(lens, r.number(4))
		if lens[len(lens)-1] == 0 {
			lens = append(lens, make([]int, r.number(3))...)
		}
	}
	if r.over || len(lens) != allSyms || !slowLensOk(lens) {
		return nil, false
	}
	return lens, slices.Equal(slowLensBits(lens), from[:len(from)-len(r.left)])
}

func (r *taker) norm() ([]int, bool) {
	norm := []int{}
	sum := 0
	for len(norm) < allSyms && sum <= 64 && !r.over {
		share := 0
		if sum < 64 {
			share = r.number(slowClass(64-sum) + 1)
		}
		norm = append(norm, share)
		sum += share
	}
	return norm, !r.over && sum == 64
}

func slowFseGet(norm []int, x bitList, n int) ([]int, bool) {
	cells := slowTable(norm)
	end := len(x)
	back := func(width int) int {
		end -= width
		if end < 0 {
			return 0
		}
		return x[end : end+width].number()
	}
	text := []int{}
	place := back(6)
	for range n {
		c := cells[place]
		text = append(text, c.Sym)
		place = c.Base + back(c.Bits)
	}
	return text, end == 0 && place == 0
}

// slowRead reads symbols and what is beside them, as far as they are there.
func slowRead(mode int, all bitList) ([]int, bitList, bool) {
	r := &taker{left: all}
	many := r.number(8)
	if mode == impl.MdHuff {
		lens, ok := r.lens()
		if !ok || r.over {
			return nil, nil, false
		}
		syms, next := slowGet(lens, r.left, 0, many)
		if next < 0 {
			return nil, nil, false
		}
		return syms, r.left[next:], true
	}
	norm, ok := r.norm()
	beside := r.take(r.number(9))
	if !ok || r.over {
		return nil, nil, false
	}
	syms, ok := slowFseGet(norm, r.left, many)
	return syms, beside, ok
}

func slowDecode(blob []byte) ([]byte, bool) {
	if len(blob) < 2 || len(blob) > 65 {
		return nil, false
	}
	mode, rest := int(blob[0]), blob[1:]
	switch mode {
	case impl.MdRaw:
		return rest, len(rest) == 64
	case impl.MdRun:
		return bytes.Repeat(rest, 64), len(rest) == 1
	case impl.MdHuff, impl.MdFse:
	default:
		return nil, false
	}
	all := textBits(impl.Bits{B: rest, N: 8 * len(rest)})
	if rest[len(rest)-1] == 0 {
		return nil, false
	}
	for !all[len(all)-1] {
		all = all[:len(all)-1]
	}
	syms, beside, ok := slowRead(mode, all[:len(all)-1])
	if !ok {
		return nil, false
	}
	l, ok := slowUnsymbols(syms, beside)
	b, _ := slowExec(l)
	return b, ok && len(b) == 64
}

func blockOf(text string) []byte {
	return []byte(strings.Repeat(text, impl.BlockBytes)[:impl.BlockBytes])
}

// lowered has letters of one upper half alone, no three of them twice: one symbol, many bits beside.
func lowered() []byte {
	b := []byte{}
	for i := range 16 {
		for j := i; len(b) < impl.BlockBytes && j < 16; j++ {
			b = append(b, 'p'+byte(i), 'p'+byte(j))
		}
	}
	return b
}

// deep has letters whose upper halves are there so often that the longest code has seven bits.
func deep() []byte {
	b := []byte{}
	for upper, many := range []int{1, 1, 2, 3, 5, 8, 13} {
		for i := range many {
			b = append(b, byte(16*upper+i))
		}
	}
	return append(b, lowered()[:31]...)
}

// someBlocks have few letters or many, long pieces or none; all modes are somewhere the best.
func someBlocks() [][]byte {
	all := [][]byte{apart(impl.BlockBytes), lowered(), deep(), blockOf("a"), blockOf("\x00"), blockOf("\xff"), blockOf("the cat and the dog ")}
	for _, v := range []byte{0, 1, 'b', 255} {
		last, first := blockOf("a"), blockOf("a")
		last[impl.BlockBytes-1], first[0] = v, v
		all = append(all, last, first)
	}
	for period := 1; period <= impl.BlockBytes; period += 3 {
		all = append(all, blockOf(string(apart(period))))
	}
	for _, top := range []int{1, 2, 3, 5, 9, 15, 16, 30, 60, 120, 255} {
		for seed := range uint64(8) {
			b := bytesOf(picked(impl.BlockBytes, top, seed+uint64(top)), 'a')
			all = append(all, b, slices.Concat(b[:24], b[:16], b[8:32]), slices.Concat(b[:40], b[:8], blockOf("a")[:16]))
		}
	}
	return all
}

func wantSymbols(t *testing.T, name string, l []impl.Seq, want []int, wantBeside bitList) {
	t.Helper()
	syms, beside, ok := impl.Symbols(l)
	wantList(t, name+", symbols", syms, ok, want)
	wantBits(t, name+", beside", beside, ok, wantBeside)
}

func wantNoSymbols(t *testing.T, name string, l []impl.Seq) {
	t.Helper()
	syms, beside, ok := impl.Symbols(l)
	wantNoList(t, name, syms, ok)
	wantNoBits(t, name, beside, ok)
}

func wantUnsymbols(t *testing.T, name string, syms []int, beside bitList, want []impl.Seq) {
	t.Helper()
	l, ok := impl.Unsymbols(syms, beside.bits())
	if !ok || !sameSeqs(l, want) {
		t.Fatalf("%s: Unsymbols of %v, %v: %v %v, want %v true", name, syms, beside.bits(), l, ok, want)
	}
}

func wantNoUnsymbols(t *testing.T, name string, syms []int, extra impl.Bits) {
	t.Helper()
	if l, ok := impl.Unsymbols(syms, extra); ok || len(l) != 0 {
		t.Fatalf("%s: Unsymbols of %v, %v: %v %v, want nothing and false", name, syms, extra, l, ok)
	}
}

// wantBlock asks for the mode, too.
func wantBlock(t *testing.T, name string, blob []byte, want []byte) {
	t.Helper()
	block, ok := impl.Decode(blob)
	if !ok || !bytes.Equal(block, want) {
		t.Fatalf("%s: Decode of %v: %v %v, want %v true", name, blob, block, ok, want)
	}
	if mode := impl.ModeOf(blob); mode != int(blob[0]) {
		t.Fatalf("%s: ModeOf of %v is %d", name, blob, mode)
	}
}

func wantNoBlock(t *testing.T, name string, blob []byte) {
	t.Helper()
	block, ok := impl.Decode(blob)
	wantNoBytes(t, fmt.Sprint(name, ": Decode of ", blob), block, ok)
	if mode := impl.ModeOf(blob); mode != -1 {
		t.Fatalf("%s: ModeOf of %v is %d, want -1", name, blob, mode)
	}
}

// decodesAsSlowly tells whether a blob is one, as the slow model has it.
func decodesAsSlowly(t *testing.T, name string, blob []byte) bool {
	t.Helper()
	want, ok := slowDecode(blob)
	if ok {
		wantBlock(t, name, blob, want)
	} else {
		wantNoBlock(t, name, blob)
	}
	return ok
}

// seqsComeBack holds both ways against the model.
func seqsComeBack(t *testing.T, l []impl.Seq) {
	t.Helper()
	syms, beside := slowSymbols(l)
	wantSymbols(t, fmt.Sprint(l), l, syms, beside)
	wantUnsymbols(t, "what comes back", syms, beside, l)
}

func TestSequencesComeBackFromSymbols(t *testing.T) {
	for _, c := range rightSeqs() {
		seqsComeBack(t, c.l)
	}
	for _, b := range append(someTexts(), someBlocks()...) {
		l, _ := impl.Find(b)
		seqsComeBack(t, l)
	}
	hold := func(l []impl.Seq) {
		if _, ok := slowExec(l); ok {
			seqsComeBack(t, l)
		} else {
			wantNoSymbols(t, fmt.Sprint(l), l)
		}
	}
	eachSeqs(2, []int{0, 1, 3, 30}, []int{0, 2, 3, 4, 33}, []int{0, 1, 4, 6, 7, 31}, hold)
	eachSeqs(3, []int{0, 2, 29}, []int{0, 3, 35}, []int{0, 1, 5}, hold)
}

func TestSymbolsRefuses(t *testing.T) {
	for name, l := range wrongSeqs() {
		wantNoSymbols(t, name, l)
	}
	room := []impl.Seq{seq("ab", 0, 0), seq("", 9, 0)}
	wantSymbols(t, "spare room", room[:1], []int{6, 6}, bitsOfText("1000"+"0100"))
}

// What the document says is written out here by hand; bits are the lowest first.
func TestSymbolsByHand(t *testing.T) {
	for _, c := range []struct {
		name   string
		l      []impl.Seq
		syms   []int
		beside string
	}{
		{"nothing", nil, nil, ""},
		{"a letter of noughts", []impl.Seq{seq("\x00", 0, 0)}, []int{0}, "0000"},
		{"the greatest letter", []impl.Seq{seq("\xff", 0, 0)}, []int{15}, "1111"},
		{"letters alone", []impl.Seq{seq("\x0f\xf0\x6a", 0, 0)}, []int{0, 15, 6}, "1111" + "0000" + "0101"},
		{"a piece behind a letter", []impl.Seq{seq("a", 3, 1)}, []int{6, 16, 28}, "1000"},
		{"a piece and letters", []impl.Seq{seq("abc", 5, 3), seq("x", 0, 0)}, []int{6, 6, 6, 17, 29, 7}, "1000" + "0100" + "1100" + "1" + "1" + "0001"},
		{"a piece without letters", []impl.Seq{seq("abc", 4, 3), seq("", 3, 7)}, []int{6, 6, 6, 17, 29, 16, 30}, "1000" + "0100" + "1100" + "0" + "1" + "11"},
		{"the longest piece", []impl.Seq{seq("a", 63, 1)}, []int{6, 21, 28}, "1000" + "10111"},
	} {
		wantSymbols(t, c.name, c.l, c.syms, bitsOfText(c.beside))
		wantUnsymbols(t, c.name, c.syms, bitsOfText(c.beside), c.l)
	}
}

// Each number has its class, and as many bits as this tells.
func TestClasses(t *testing.T) {
	for _, c := range []struct {
		n     int
		class int
		rest  string
	}{
		{1, 0, ""}, {2, 1, "0"}, {3, 1, "1"}, {4, 2, "00"}, {5, 2, "10"}, {7, 2, "11"}, {8, 3, "000"}, {9, 3, "100"},
		{15, 3, "111"}, {16, 4, "0000"}, {17, 4, "1000"}, {31, 4, "1111"}, {32, 5, "00000"}, {33, 5, "10000"}, {60, 5, "00111"}, {61, 5, "10111"},
	} {
		long := []impl.Seq{{Lits: []byte{0}, Len: c.n + impl.MinMatch - 1, Dist: 1}}
		syms := []int{0, lenSym + c.class, distSym}
		wantSymbols(t, fmt.Sprint("length of ", c.n), long, syms, bitsOfText("0000"+c.rest))
		wantUnsymbols(t, fmt.Sprint("length of ", c.n), syms, bitsOfText("0000"+c.rest), long)
		far := []impl.Seq{{Lits: make([]byte, c.n), Len: impl.MinMatch, Dist: c.n}}
		syms = listed(make([]int, c.n), []int{lenSym, distSym + c.class})
		beside := joined(make(bitList, 4*c.n), bitsOfText(c.rest))
		wantSymbols(t, fmt.Sprint("distance of ", c.n), far, syms, beside)
		wantUnsymbols(t, fmt.Sprint("distance of ", c.n), syms, beside, far)
	}
	for n := 62; n <= 130; n++ {
		k := slowClass(n)
		beside := joined(make(bitList, 4), listOf(n-1<<k, k))
		wantNoUnsymbols(t, "a length above a block", []int{0, lenSym + k, distSym}, beside.bits())
		beside = joined(make(bitList, 4*61), listOf(n-1<<k, k))
		wantNoUnsymbols(t, "a distance above all", listed(make([]int, 61), []int{lenSym, distSym + k}), beside.bits())
	}
}

func TestUnsymbolsByHand(t *testing.T) {
	wantUnsymbols(t, "nothing", nil, nil, nil)
	wantUnsymbols(t, "a letter", []int{15}, ones(4), []impl.Seq{seq("\xff", 0, 0)})
	wantUnsymbols(t, "BlockBytes letters", make([]int, impl.BlockBytes), make(bitList, 256), []impl.Seq{{Lits: make([]byte, impl.BlockBytes)}})
	full := listed(make([]int, 61), []int{lenSym, distSym})
	wantUnsymbols(t, "a block up to its last byte", full, make(bitList, 244), []impl.Seq{{Lits: make([]byte, 61), Len: 3, Dist: 1}})
	for _, c := range []struct {
		name   string
		syms   []int
		beside string
	}{
		{"bits beside nothing", nil, "0"},
		{"a letter without bits", []int{6}, ""},
		{"a letter with a bit too few", []int{6}, "100"},
		{"a letter with a bit left", []int{6}, "10000"},
		{"two letters with the bits of one", []int{6, 6}, "1000"},
		{"the symbol -1", []int{-1}, "0000"},
		{"the symbol -1 behind a letter", []int{6, -1}, "1000"},
		{"the symbol 40", []int{40}, "0000"},
		{"the symbol 40 behind a piece", []int{6, 16, 28, 40}, "1000"},
		{"the symbol 40 for a distance", []int{6, 16, 40}, "1000" + "000000000000"},
		{"the least symbol", []int{math.MinInt}, "0000"},
		{"the greatest symbol", []int{math.MaxInt}, "0000"},
		{"a length alone", []int{16}, ""},
		{"a length alone behind a letter", []int{6, 16}, "1000"},
		{"a length, then a letter", []int{6, 16, 6}, "1000" + "1000"},
		{"two lengths", []int{6, 16, 16, 28}, "1000"},
		{"two lengths and no distance", []int{6, 16, 16}, "1000"},
		{"the length 27 for a distance", []int{6, 16, 27}, "1000" + "00000000000"},
		{"a distance alone", []int{28}, ""},
		{"a distance behind a letter", []int{6, 28}, "1000"},
		{"a distance ahead of a length", []int{6, 28, 16}, "1000"},
		{"two distances", []int{6, 16, 28, 28}, "1000"},
		{"the distance 39 alone", []int{39}, "00000000000"},
		{"the distance 39 behind a letter", []int{6, 39}, "1000" + "00000000000"},
		{"a piece of nothing", []int{16, 28}, ""},
		{"a piece from too far", []int{6, 16, 29}, "1000" + "0"},
		{"a piece too long", []int{6, 22, 28}, "1000" + "000000"},
		{"the longest length", []int{6, 27, 28}, "1000" + "00000000000"},
		{"the longest distance", []int{6, 16, 39}, "1000" + "00000000000"},
		{"a length with a bit too few", []int{6, 18, 28}, "1000" + "0"},
		{"a distance with a bit too few", []int{6, 6, 16, 29}, "1000" + "1000"},
		{"a piece with a bit left", []int{6, 16, 28}, "10000"},
		{"a long piece with a bit left", []int{6, 17, 28}, "1000" + "01"},
		{"a letter with a bit too few behind a piece", []int{6, 16, 28, 6}, "1000" + "100"},
	} {
		wantNoUnsymbols(t, c.name, c.syms, bitsOfText(c.beside).bits())
		if _, ok := slowUnsymbols(c.syms, bitsOfText(c.beside)); ok {
			t.Fatal("the model takes", c.name)
		}
	}
}

func TestUnsymbolsAtTheEdges(t *testing.T) {
	for name, wrong := range wrongBits() {
		wantNoUnsymbols(t, name, nil, wrong)
		wantNoUnsymbols(t, name, []int{0}, wrong)
		wantNoUnsymbols(t, name, []int{0, 0}, wrong)
	}
	wantNoUnsymbols(t, "bits behind N", []int{6}, impl.Bits{B: []byte{0x11}, N: 4})
	for _, n := range []int{impl.BlockBytes + 1, impl.MaxText, impl.MaxText + 1, 1000} {
		wantNoUnsymbols(t, fmt.Sprint(n, " letters"), make([]int, n), make(bitList, 4*n).bits())
	}
	wantNoUnsymbols(t, "very many", make([]int, 100000), impl.Bits{})
	wantNoUnsymbols(t, "pieces and a letter above a block", listed(make([]int, 61), []int{lenSym, distSym, 0}), make(bitList, 248).bits())
	room := []int{6, 40}
	wantUnsymbols(t, "spare room", room[:1], bitsOfText("1000"), []impl.Seq{seq("a", 0, 0)})
	l, ok := impl.Unsymbols(room[:1], impl.Bits{B: []byte{1, 255}[:1], N: 4})
	if !ok || !sameSeqs(l, []impl.Seq{seq("a", 0, 0)}) {
		t.Fatal("spare bytes:", l, ok)
	}
}

// unsymbolsIsSymbols tells whether they are taken; Symbols of what comes of it are just they then.
func unsymbolsIsSymbols(t *testing.T, syms []int, beside bitList) bool {
	t.Helper()
	want, fine := slowUnsymbols(syms, beside)
	if !fine {
		wantNoUnsymbols(t, "no sequences", syms, beside.bits())
		return false
	}
	wantUnsymbols(t, "sequences", syms, beside, want)
	l, _ := impl.Unsymbols(syms, beside.bits())
	wantSymbols(t, "the symbols again", l, syms, beside)
	return true
}

func TestUnsymbolsOfAllFewSymbols(t *testing.T) {
	taken, refused := 0, 0
	for n := range 5 {
		eachList(n, []int{0, 15, 16, 17, 27, 28, 29, 39}, func(syms []int) {
			for size := range 11 {
				for seed := range uint64(2) {
					if unsymbolsIsSymbols(t, syms, mixed(size, seed)) {
						taken++
					} else {
						refused++
					}
				}
			}
		})
	}
	if taken == 0 || refused == 0 {
		t.Fatal("all of one kind:", taken, refused)
	}
}

// A symbol more, less or other makes none of it, or something else that is just as right.
func TestUnsymbolsOfSpoiltSymbols(t *testing.T) {
	taken := 0
	for i, b := range someBlocks() {
		syms, beside := slowSymbols(slowFind(b))
		for step := range 20 {
			at := (7*i + 5*step) % len(syms)
			for _, s := range []int{-1, 0, 15, 16, 21, 27, 28, 33, 39, 40} {
				spoilt := slices.Clone(syms)
				spoilt[at] = s
				if unsymbolsIsSymbols(t, spoilt, beside) {
					taken++
				}
			}
			unsymbolsIsSymbols(t, slices.Delete(slices.Clone(syms), at, at+1), beside)
			unsymbolsIsSymbols(t, syms[:at], beside)
			turned := slices.Clone(beside)
			turned[(at*len(beside))/len(syms)] = !turned[(at*len(beside))/len(syms)]
			if unsymbolsIsSymbols(t, syms, turned) {
				taken++
			}
		}
		unsymbolsIsSymbols(t, syms, beside[1:])
		unsymbolsIsSymbols(t, syms, beside[:len(beside)-1])
		unsymbolsIsSymbols(t, syms, joined(beside, bitList{false}))
		unsymbolsIsSymbols(t, syms, nil)
	}
	if taken == 0 {
		t.Fatal("nothing was taken at all")
	}
}

func TestPackedOfEachMode(t *testing.T) {
	for _, b := range someBlocks() {
		for mode := impl.MdRaw; mode <= impl.MdFse; mode++ {
			name := fmt.Sprintf("mode %d of %q", mode, b)
			blob, ok := impl.Packed(b, mode)
			want, fine := slowPacked(b, mode)
			if !fine {
				wantNoBytes(t, name, blob, ok)
				continue
			}
			if !ok || !bytes.Equal(blob, want) {
				t.Fatalf("%s: %v %v, want %v true", name, blob, ok, want)
			}
		}
	}
}

// A block comes back from each blob that is not too long; both lengths are met, just long enough and one more.
func TestBlockComesBackFromEachMode(t *testing.T) {
	sizes := map[int]map[int]int{}
	for mode := impl.MdRaw; mode <= impl.MdFse; mode++ {
		sizes[mode] = map[int]int{}
	}
	hold := func(b []byte) {
		for mode := impl.MdRaw; mode <= impl.MdFse; mode++ {
			blob, ok := impl.Packed(b, mode)
			if !ok {
				continue
			}
			sizes[mode][len(blob)]++
			if len(blob) <= maxBlob {
				wantBlock(t, fmt.Sprintf("mode %d of %q", mode, b), blob, b)
			} else {
				wantNoBlock(t, "too long", blob)
			}
		}
	}
	for _, b := range someBlocks() {
		hold(b)
	}
	for seed := range uint64(300) {
		hold(bytesOf(picked(impl.BlockBytes, 100, seed), byte(seed)))
	}
	for _, mode := range []int{impl.MdHuff, impl.MdFse} {
		if sizes[mode][maxBlob] == 0 || sizes[mode][maxBlob+1] == 0 {
			t.Fatal("no blobs as long as this, or one more:", mode, sizes[mode])
		}
	}
	if sizes[impl.MdRun][2] == 0 || len(sizes[impl.MdRun]) != 1 || sizes[impl.MdRaw][maxBlob] == 0 || len(sizes[impl.MdRaw]) != 1 {
		t.Fatal("runs or raw blobs of other lengths:", sizes)
	}
}

// encodeHolds answers all the modes whose blob is the shortest.
func encodeHolds(t *testing.T, b []byte) string {
	t.Helper()
	blob, ok := impl.Encode(b)
	if !ok || len(blob) < 2 || len(blob) > maxBlob {
		t.Fatalf("Encode of %q: %v %v", b, blob, ok)
	}
	wantBlock(t, "Encode", blob, b)
	best := ""
	for mode := impl.MdRaw; mode <= impl.MdFse; mode++ {
		other, fine := impl.Packed(b, mode)
		if !fine || len(other) > len(blob) {
			continue
		}
		if len(other) < len(blob) {
			t.Fatalf("Encode of %q: %d bytes, mode %d has %d", b, len(blob), mode, len(other))
		}
		if best == "" && !bytes.Equal(other, blob) {
			t.Fatalf("Encode of %q: %v, but the first mode is %d: %v", b, blob, mode, other)
		}
		best += fmt.Sprint(mode)
	}
	if impl.ModeOf(blob) != int(best[0]-'0') {
		t.Fatalf("Encode of %q has mode %d of %s", b, impl.ModeOf(blob), best)
	}
	return best
}

// leaning has any bytes, but most of them, the more the greater top is, have the same upper half.
func leaning(top int, seed uint64) []byte {
	l, most := picked(impl.BlockBytes, 255, seed), picked(impl.BlockBytes, top, seed+77)
	for i := range l {
		if most[i] > 1 {
			l[i] %= 16
		}
	}
	return bytesOf(l, 0)
}

func TestEncodeIsTheShortest(t *testing.T) {
	met := map[string]int{}
	for _, b := range someBlocks() {
		met[encodeHolds(t, b)]++
	}
	for top := 1; top <= 120; top++ {
		for seed := range uint64(30) {
			met[encodeHolds(t, bytesOf(picked(impl.BlockBytes, top, seed), 'a'))]++
		}
	}
	for seed := range uint64(160) {
		met[encodeHolds(t, leaning(3, seed))]++
		met[encodeHolds(t, leaning(4, seed))]++
	}
	for _, modes := range []string{"0", "1", "2", "3", "02", "03", "23", "023"} {
		if met[modes] == 0 {
			t.Errorf("no block is the shortest by the modes %s: %v", modes, met)
		}
	}
}

func TestEncodeOfAlikeBytes(t *testing.T) {
	for v := range 256 {
		b := bytes.Repeat([]byte{byte(v)}, impl.BlockBytes)
		for name, do := range map[string]func() ([]byte, bool){
			"Encode": func() ([]byte, bool) { return impl.Encode(b) },
			"Packed": func() ([]byte, bool) { return impl.Packed(b, impl.MdRun) },
		} {
			if blob, ok := do(); !ok || !bytes.Equal(blob, []byte{impl.MdRun, byte(v)}) {
				t.Fatalf("%s of bytes %d: %v %v", name, v, blob, ok)
			}
		}
		wantBlock(t, "a run", []byte{impl.MdRun, byte(v)}, b)
		for _, at := range []int{0, 1, impl.BlockBytes - 2, impl.BlockBytes - 1} {
			other := bytes.Clone(b)
			other[at] ^= 1
			blob, ok := impl.Packed(other, impl.MdRun)
			wantNoBytes(t, fmt.Sprint("another byte at ", at), blob, ok)
			blob, _ = impl.Encode(other)
			if blob[0] == impl.MdRun {
				t.Fatalf("a run with another byte at %d: %v", at, blob)
			}
			wantBlock(t, "another byte", blob, other)
		}
	}
}

func TestPackedAndEncodeRefuse(t *testing.T) {
	for _, size := range []int{0, 1, impl.BlockBytes - 1, impl.BlockBytes + 1, 2 * impl.BlockBytes, 100000} {
		for _, b := range [][]byte{make([]byte, size), bytesOf(picked(size, 200, 3), 0)} {
			for mode := -1; mode <= 4; mode++ {
				blob, ok := impl.Packed(b, mode)
				wantNoBytes(t, fmt.Sprintf("mode %d of %d bytes", mode, size), blob, ok)
			}
			blob, ok := impl.Encode(b)
			wantNoBytes(t, fmt.Sprintf("Encode of %d bytes", size), blob, ok)
		}
	}
	for _, b := range [][]byte{blockOf("a"), apart(impl.BlockBytes)} {
		for _, mode := range []int{math.MinInt, -256, -1, 4, 5, 256, 257, 258, 259, math.MaxInt} {
			blob, ok := impl.Packed(b, mode)
			wantNoBytes(t, fmt.Sprint("mode ", mode), blob, ok)
		}
		for _, mode := range []int{impl.MdRaw, impl.MdHuff, impl.MdFse} {
			if blob, ok := impl.Packed(b, mode); !ok || int(blob[0]) != mode {
				t.Fatalf("mode %d: %v %v", mode, blob, ok)
			}
		}
	}
	for _, none := range [][]byte{nil, {}} {
		blob, ok := impl.Encode(none)
		wantNoBytes(t, "nothing", blob, ok)
	}
}

// Blobs are written out here by hand, part by part.
func TestPackedByHand(t *testing.T) {
	b := blockOf("a")
	nought := func(n int, width int) string { return strings.Repeat("0", n*width) }
	lens := "0000" + "101" + "0100" + "0000" + "111" + "0000" + "101" + "0100" + "0000" + "101" + "1000" + "0000" + "111" + "0000" + "010"
	huff := sealedBlob(2, bitsOfText("11000000"+lens+"10"+"11"+"0"+"1000"+"10111"))
	norm := nought(6, 7) + "0110100" + nought(14, 6) + "101010" + nought(6, 5) + "10101"
	shares := make([]int, allSyms)
	shares[6], shares[21], shares[28] = 22, 21, 21
	fse := sealedBlob(3, bitsOfText("11000000"+norm+"100100000"+"1000"+"10111"), slowFsePut(shares, []int{6, 21, 28}))
	for mode, want := range [][]byte{append([]byte{0}, b...), {1, 'a'}, huff, fse} {
		if blob, ok := impl.Packed(b, mode); !ok || !bytes.Equal(blob, want) {
			t.Fatalf("mode %d: %v %v, want %v", mode, blob, ok, want)
		}
		wantBlock(t, fmt.Sprint("mode ", mode), want, b)
	}
}

func TestRawAndRunBlobs(t *testing.T) {
	for size := range 2 * impl.BlockBytes {
		rest := bytesOf(picked(size, 255, uint64(size)), 0)
		for mode := range 2 {
			blob := append([]byte{byte(mode)}, rest...)
			switch {
			case mode == impl.MdRaw && size == impl.BlockBytes:
				wantBlock(t, "raw", blob, rest)
			case mode == impl.MdRun && size == 1:
				wantBlock(t, "a run", blob, bytes.Repeat(rest, impl.BlockBytes))
			default:
				wantNoBlock(t, "another length", blob)
			}
		}
	}
	wantBlock(t, "a raw blob whose bytes are alike", append([]byte{0}, blockOf("a")...), blockOf("a"))
	wantNoBlock(t, "a run that is a whole block", append([]byte{1}, blockOf("a")...))
	wantNoBlock(t, "nil", nil)
	wantNoBlock(t, "no bytes", []byte{})
	wantNoBlock(t, "very many", make([]byte, 100000))
	room := append([]byte{1, 7}, blockOf("a")...)
	wantBlock(t, "spare room", room[:2], bytes.Repeat([]byte{7}, impl.BlockBytes))
	wantNoBlock(t, "a byte in the spare room", room[:1])
}

// Another first byte is none, whatever follows it.
func TestOtherModesAreNone(t *testing.T) {
	rests := [][]byte{{0}, {7}, blockOf("a")}
	for mode := impl.MdHuff; mode <= impl.MdFse; mode++ {
		blob, _ := impl.Packed(blockOf("the cat and the dog "), mode)
		rests = append(rests, blob[1:])
	}
	for first := 4; first < 256; first++ {
		for _, rest := range rests {
			wantNoBlock(t, "another first byte", append([]byte{byte(first)}, rest...))
		}
	}
	for mode, rest := range map[int][]byte{2: rests[4], 3: rests[3]} {
		wantNoBlock(t, "the other code's bits", append([]byte{byte(mode)}, rest...))
	}
}

// spoiltParts calls do with each part cut, longer, turned round or away.
func spoiltParts(parts []bitList, do func(name string, spoilt []bitList)) {
	for i, p := range parts {
		put := func(name string, other bitList) {
			spoilt := slices.Clone(parts)
			spoilt[i] = other
			do(fmt.Sprintf("part %d %s", i, name), spoilt)
		}
		put("away", nil)
		put("cut at its end", p[:len(p)-1])
		put("cut at its beginning", p[1:])
		put("cut in its middle", joined(p[:len(p)/2], p[len(p)/2+1:]))
		for _, bit := range []bool{false, true} {
			put("longer at its end", joined(p, bitList{bit}))
			put("longer at its beginning", joined(bitList{bit}, p))
		}
		for at := range p {
			turned := slices.Clone(p)
			turned[at] = !turned[at]
			put(fmt.Sprint("turned at ", at), turned)
		}
		do(fmt.Sprint("up to part ", i), parts[:i])
	}
}

func TestBlobsWithSpoiltParts(t *testing.T) {
	texts := []string{"the cat and the dog ", "a", "abcabcabx", "ab", "0123456789abcdefghij"}
	for _, mode := range []int{impl.MdHuff, impl.MdFse} {
		taken, refused := 0, 0
		for _, text := range texts {
			b := blockOf(text)
			parts := partsBy(mode, slowFind(b))
			wantBlock(t, "whole", sealedBlob(mode, parts...), b)
			spoiltParts(parts, func(name string, spoilt []bitList) {
				if decodesAsSlowly(t, fmt.Sprintf("mode %d of %q, %s", mode, text, name), sealedBlob(mode, spoilt...)) {
					taken++
				} else {
					refused++
				}
			})
		}
		if taken == 0 || refused == 0 {
			t.Fatal("all of one kind:", taken, refused)
		}
	}
}

// These parts are refused by what each of them alone tells, whatever the block.
func TestPartsThatAreRefused(t *testing.T) {
	held := map[int]int{}
	for _, b := range someBlocks() {
		l := slowFind(b)
		syms, beside := slowSymbols(l)
		for _, mode := range []int{impl.MdHuff, impl.MdFse} {
			parts := partsBy(mode, l)
			if len(sealedBlob(mode, parts...)) > maxBlob-2 || slices.Max(slowNorm(slowCounts(syms))) == 64 {
				continue
			}
			held[mode]++
			with := func(i int, other bitList) []byte {
				spoilt := slices.Clone(parts)
				spoilt[i] = other
				return sealedBlob(mode, spoilt...)
			}
			for _, many := range []int{0, 1, len(syms) - 1, len(syms) + 1, 255} {
				wantNoBlock(t, fmt.Sprint(many, " symbols"), with(0, listOf(many, 8)))
			}
			last := len(parts) - 1
			if mode == impl.MdHuff {
				wantNoBlock(t, "a bit beside too few", with(last, beside[:len(beside)-1]))
				wantNoBlock(t, "a bit beside left", with(last, joined(beside, bitList{false})))
				wantNoBlock(t, "eight bits beside left", with(last, joined(beside, make(bitList, 8))))
				continue
			}
			decodesAsSlowly(t, "a bit behind the text", with(last, joined(parts[last], bitList{true})))
			decodesAsSlowly(t, "noughts behind the text", with(last, joined(parts[last], make(bitList, 8))))
			wantNoBlock(t, "no bits beside", with(2, listOf(0, 9)))
			wantNoBlock(t, "more bits beside than there are", with(2, listOf(511, 9)))
			short := slices.Concat(parts[:2], []bitList{listOf(len(beside)-1, 9), beside[:len(beside)-1], parts[4]})
			wantNoBlock(t, "a bit beside too few", sealedBlob(mode, short...))
			long := slices.Concat(parts[:2], []bitList{listOf(len(beside)+1, 9), joined(beside, bitList{false}), parts[4]})
			wantNoBlock(t, "a bit beside left", sealedBlob(mode, long...))
		}
	}
	if held[impl.MdHuff] == 0 || held[impl.MdFse] == 0 {
		t.Fatal("no such blobs:", held)
	}
}

// The bits of a blob have no end, none but an end, or an end too soon.
func TestBlobsThatAreNotOpened(t *testing.T) {
	for mode := 2; mode <= 3; mode++ {
		first := byte(mode)
		wantNoBlock(t, "a nought", []byte{first, 0})
		wantNoBlock(t, "an end alone", []byte{first, 1})
		for v := range 256 {
			wantNoBlock(t, "a byte alone", []byte{first, byte(v)})
			wantNoBlock(t, "two bytes", []byte{first, 3, byte(v)})
		}
		blob, _ := impl.Packed(blockOf("the cat and the dog "), mode)
		wantNoBlock(t, "a nought behind it", append(bytes.Clone(blob), 0))
		wantNoBlock(t, "no end", append(bytes.Clone(blob[:len(blob)-1]), 0))
		for size := range blob {
			wantNoBlock(t, "cut off", blob[:size])
		}
		full := append(bytes.Clone(blob), make([]byte, maxBlob+1-len(blob))...)
		full[len(full)-1] = 1
		wantNoBlock(t, "BlockBytes + 1 bytes", full[1:])
		wantNoBlock(t, "BlockBytes + 2 bytes", full)
	}
}

// otherSeqs make a block of letters a alone, in ways that Find would not take.
func otherSeqs() map[string][]impl.Seq {
	return map[string][]impl.Seq{
		"letters alone":            {seq(strings.Repeat("a", 64), 0, 0)},
		"two pieces":               {seq("a", 30, 1), seq("", 33, 31)},
		"pieces from far":          {seq("aaaaaaaa", 8, 8), seq("", 16, 16), seq("", 32, 32)},
		"a letter behind a piece":  {seq("a", 62, 1), seq("a", 0, 0)},
		"letters between pieces":   {seq("aa", 20, 2), seq("aaa", 39, 7)},
		"the most pieces":          pieces(21),
		"the shortest piece alone": {seq(strings.Repeat("a", 61), 3, 61)},
	}
}

func TestOtherSequencesAreDecoded(t *testing.T) {
	b := blockOf("a")
	found := slowFind(b)
	for name, l := range otherSeqs() {
		if sameSeqs(l, found) {
			t.Fatal(name, "would be found")
		}
		for _, mode := range []int{impl.MdHuff, impl.MdFse} {
			blob := sealedBlob(mode, partsBy(mode, l)...)
			if len(blob) > maxBlob {
				t.Fatal(name, "is too long")
			}
			wantBlock(t, name, blob, b)
			decodesAsSlowly(t, name, blob)
		}
	}
}

// Lengths and shares need not be those of the counts, nor of symbols that are there alone.
func TestOtherLengthsAndSharesAreDecoded(t *testing.T) {
	b := blockOf("abcabcabx")
	syms, beside := slowSymbols(slowFind(b))
	many := listOf(len(syms), 8)
	for _, lens := range [][]int{listed(alike(24, 5), alike(16, 6)), listed(alike(16, 6), alike(24, 5)), listed([]int{1}, alike(25, 6), alike(14, 7))} {
		blob := sealedBlob(2, many, slowLensBits(lens), codesOfText(lens, syms), beside)
		wantBlock(t, "other lengths", blob, b)
	}
	for _, lens := range [][]int{listed(alike(24, 5), alike(15, 6), []int{0}), listed(alike(25, 5), alike(15, 6)), listed(alike(39, 5), []int{1})} {
		blob := sealedBlob(2, many, slowLensBits(lens), codesOfText(lens, syms), beside)
		wantNoBlock(t, "lengths that don't fill what there is, or more", blob)
	}
	for _, norm := range [][]int{listed(alike(24, 2), alike(16, 1)), listed(alike(39, 1), []int{25})} {
		blob := sealedBlob(3, many, slowNormBits(norm), listOf(len(beside), 9), beside, slowFsePut(norm, syms))
		wantBlock(t, "other shares", blob, b)
	}
	lens := make([]int, allSyms)
	lens[6] = 2
	wantNoBlock(t, "one code of length 2", sealedBlob(2, listOf(64, 8), slowLensBits(lens), make(bitList, 128), make(bitList, 256)))
	lens[6] = 1
	blob := sealedBlob(2, listOf(64, 8), slowLensBits(lens), make(bitList, 64), make(bitList, 256))
	wantBlock(t, "one code", blob, blockOf("`"))
	wantNoBlock(t, "a bit that is nobody's code", sealedBlob(2, listOf(64, 8), slowLensBits(lens), make(bitList, 63), bitList{true}, make(bitList, 256)))
	other := sealedBlob(2, listOf(64, 8), slowLensBits(lens[:allSyms-1]), make(bitList, 64), make(bitList, 256))
	wantNoBlock(t, "lengths of 39 symbols", other)
	other = sealedBlob(2, listOf(64, 8), slowLensBits(listed(lens, []int{0})), make(bitList, 64), make(bitList, 256))
	wantNoBlock(t, "lengths of 41 symbols", other)
	for _, norm := range [][]int{listed(alike(40, 1), []int{24}), listed(alike(39, 1), []int{0, 25})} {
		other = sealedBlob(3, many, slowNormBits(norm), listOf(len(beside), 9), beside, slowFsePut(norm, syms))
		wantNoBlock(t, "shares of 41 symbols", other)
	}
}

func TestSequencesThatAreNoBlock(t *testing.T) {
	long := strings.Repeat("a", impl.BlockBytes)
	for name, l := range map[string][]impl.Seq{
		"letters, a byte less":         {seq(long[1:], 0, 0)},
		"letters, a byte more":         {seq(long+"a", 0, 0)},
		"a piece, a byte less":         {seq("a", 62, 1)},
		"a piece, a byte more":         {seq("a", 64, 1)},
		"a last letter, a byte less":   {seq("a", 61, 1), seq("a", 0, 0)},
		"a last letter, a byte more":   {seq("a", 63, 1), seq("a", 0, 0)},
		"pieces, a byte less":          {seq("a", 30, 1), seq("", 32, 31)},
		"pieces, a byte more":          {seq("a", 30, 1), seq("", 34, 31)},
		"a piece from too far":         {seq("aa", 62, 3)},
		"a letter":                     {seq("a", 0, 0)},
		"the second piece too far":     {seq("a", 31, 1), seq("", 32, 33)},
		"a piece of nothing":           {seq("", 64, 1)},
		"the longest piece there is":   {seq("a", 2049, 1)},
		"the farthest piece there is":  {seq("a", 63, 4095)},
		"twice a block":                {seq("a", 63, 1), seq("", 64, 64)},
		"letters above and far pieces": {seq(long[:62], 3, 62)},
	} {
		for _, mode := range []int{impl.MdHuff, impl.MdFse} {
			blob := sealedBlob(mode, partsBy(mode, l)...)
			if len(blob) > maxBlob {
				t.Fatal(name, "is too long")
			}
			wantNoBlock(t, name, blob)
			decodesAsSlowly(t, name, blob)
		}
	}
	one := make([]int, allSyms)
	one[6] = 1
	wantNoBlock(t, "no symbols by lengths", sealedBlob(2, listOf(0, 8), slowLensBits(one)))
	one[6] = 64
	wantNoBlock(t, "no symbols by shares", sealedBlob(3, listOf(0, 8), slowNormBits(one), listOf(0, 9), make(bitList, 6)))
}

// A length without a distance and a distance without a length are no sequences in a blob, too.
func TestBlobsOfOtherSymbols(t *testing.T) {
	for name, syms := range map[string][]int{
		"a length alone":           {6, 21},
		"a distance alone":         {6, 28},
		"a length ahead":           {21, 6, 28},
		"a distance ahead":         {28, 6, 21},
		"two lengths":              {6, 21, 21, 28},
		"a length at the end":      {6, 21, 28, 16},
		"a distance at the end":    {6, 21, 28, 28},
		"a length, then a letter":  {6, 21, 6, 28},
		"the symbol 39":            {6, 21, 39},
		"the symbol 27":            {6, 27, 28},
		"a right one, a bit above": {6, 21, 28},
	} {
		beside := bitList{}
		for _, s := range syms {
			switch {
			case s < lenSym:
				beside = append(beside, bitsOfText("1000")...)
			case s == 21:
				beside = append(beside, bitsOfText("10111")...)
			default:
				beside = append(beside, make(bitList, (s-lenSym)%12)...)
			}
		}
		lens, norm := slowLens(slowCounts(syms), 12), slowNorm(slowCounts(syms))
		if name == "a right one, a bit above" {
			wantBlock(t, name, sealedBlob(2, listOf(3, 8), slowLensBits(lens), codesOfText(lens, syms), beside), blockOf("a"))
			beside = append(beside, true)
		}
		many := listOf(len(syms), 8)
		wantNoBlock(t, name, sealedBlob(2, many, slowLensBits(lens), codesOfText(lens, syms), beside))
		wantNoBlock(t, name, sealedBlob(3, many, slowNormBits(norm), listOf(len(beside), 9), beside, slowFsePut(norm, syms)))
	}
}

// Whatever bytes there are, a block is told or none.
func TestDecodeOfAnyBytes(t *testing.T) {
	for first := range 5 {
		for v := range 256 {
			decodesAsSlowly(t, "two bytes", []byte{byte(first), byte(v)})
		}
	}
	for size := range maxBlob + 4 {
		for seed := range uint64(20) {
			b := bytesOf(picked(size, 255, 1000*seed+uint64(size)), 0)
			decodesAsSlowly(t, "any bytes", b)
			for first := range 4 {
				if size > 0 {
					b[0] = byte(first)
					decodesAsSlowly(t, "any bytes behind a mode", b)
				}
			}
		}
		for _, v := range []byte{0, 1, 2, 3, 255} {
			decodesAsSlowly(t, "bytes alike", bytes.Repeat([]byte{v}, size))
		}
	}
}

func TestDecodeOfSpoiltBlobs(t *testing.T) {
	taken := map[byte]int{}
	for i, b := range someBlocks() {
		for _, mode := range []int{impl.MdHuff, impl.MdFse} {
			blob, _ := impl.Packed(b, mode)
			for step := range 25 {
				spoilt := bytes.Clone(blob)
				at := 8 + (i+step*step*7)%(8*len(blob)-8)
				spoilt[at/8] ^= 1 << (at % 8)
				if decodesAsSlowly(t, "a bit turned", spoilt) {
					taken[spoilt[0]]++
				}
			}
		}
	}
	if taken[impl.MdHuff] == 0 || taken[impl.MdFse] == 0 {
		t.Fatal("nothing was decoded:", taken)
	}
}

func TestSymbolsArgumentsStay(t *testing.T) {
	hold := func(l []impl.Seq) {
		keepsSeqsApart(t, "Symbols", l, func(x []impl.Seq) []byte { _, y, _ := impl.Symbols(x); return y.B })
		room := roomySeqs(l)
		syms, beside, ok := impl.Symbols(room[:len(l)])
		want := slices.Clone(syms)
		spoilSeqs(room)
		if !slices.Equal(syms, want) {
			t.Fatalf("Symbols of %v change with the argument", l)
		}
		if !ok {
			return
		}
		keepsListApart(t, "Unsymbols", want, func(x []int) []int { impl.Unsymbols(x, beside); return nil })
		keepsApart(t, "Unsymbols", textBits(beside), func(x impl.Bits) []byte {
			seqs, _ := impl.Unsymbols(want, x)
			return impl.LitsOf(seqs)
		})
		unsymbolsAreApart(t, want, beside)
	}
	for _, c := range rightSeqs() {
		hold(c.l)
	}
	for _, l := range wrongSeqs() {
		hold(l)
	}
}

// No letters of what comes back share memory with each other or with the bits, nor the room behind them.
func unsymbolsAreApart(t *testing.T, syms []int, beside impl.Bits) {
	t.Helper()
	list, room := fenced(beside.B)
	l, ok := impl.Unsymbols(syms, impl.Bits{B: list, N: beside.N})
	if !ok {
		t.Fatal("not taken:", syms)
	}
	want, before := clonedSeqs(l), bytes.Clone(room)
	for i := range l {
		spoil(l[i].Lits)
		for j := range l {
			if j > i && !bytes.Equal(l[j].Lits, want[j].Lits) {
				t.Fatalf("Unsymbols of %v: letters %d change with letters %d", syms, j, i)
			}
		}
	}
	if !bytes.Equal(room, before) {
		t.Fatalf("Unsymbols of %v: the bits change with the letters", syms)
	}
}

// keepsBytesApart is for functions of bytes.
func keepsBytesApart(t *testing.T, name string, b []byte, do func(b []byte) []byte) {
	t.Helper()
	list, room := fenced(b)
	before := bytes.Clone(room)
	answer := do(list)
	if !bytes.Equal(room, before) {
		t.Fatalf("%s of %v writes into its argument or behind it", name, b)
	}
	want := bytes.Clone(answer)
	spoil(room)
	if !bytes.Equal(answer, want) {
		t.Fatalf("%s of %v: the answer changes with the argument", name, b)
	}
	spoilt := bytes.Clone(room)
	spoil(answer)
	if !bytes.Equal(room, spoilt) {
		t.Fatalf("%s of %v: the argument changes with the answer", name, b)
	}
}

func TestBlobArgumentsStay(t *testing.T) {
	for i, b := range append(someBlocks(), nil, make([]byte, 63), make([]byte, 65)) {
		keepsBytesApart(t, "Encode", b, func(x []byte) []byte { blob, _ := impl.Encode(x); return blob })
		for mode := -1; mode <= 4; mode++ {
			keepsBytesApart(t, fmt.Sprint("Packed by ", mode), b, func(x []byte) []byte { blob, _ := impl.Packed(x, mode); return blob })
			blob, _ := impl.Packed(b, mode)
			if i%2 == 0 && len(blob) > 5 {
				blob[5]++
			}
			keepsBytesApart(t, "Decode", blob, func(x []byte) []byte { block, _ := impl.Decode(x); return block })
			keepsBytesApart(t, "ModeOf", blob, func(x []byte) []byte { impl.ModeOf(x); return nil })
		}
	}
}

// What lies behind a block or a blob is none of it.
func TestBlobsReadNoSpare(t *testing.T) {
	for _, b := range someBlocks()[:12] {
		blob, _ := impl.Encode(b)
		list, _ := fenced(b)
		again, ok := impl.Encode(list)
		if !ok || !bytes.Equal(again, blob) {
			t.Fatalf("Encode of %q with spare room: %v %v", b, again, ok)
		}
		short, ok := impl.Encode(list[:63])
		wantNoBytes(t, "a byte in the spare room", short, ok)
		list, _ = fenced(blob)
		wantBlock(t, "spare room", list, b)
		wantNoBlock(t, "a byte less than the blob", list[:len(list)-1])
	}
}

// Nothing is kept: answers of one call are not those of another one.
func TestBlobsKeepNothing(t *testing.T) {
	b := blockOf("the cat and the dog ")
	for mode := impl.MdRaw; mode <= impl.MdFse; mode++ {
		want, _ := slowPacked(b, mode)
		blob, _ := impl.Packed(b, mode)
		block, _ := impl.Decode(blob)
		spoil(blob)
		spoil(block)
		again, _ := impl.Packed(b, mode)
		if !bytes.Equal(again, want) {
			t.Fatalf("mode %d again: %v", mode, again)
		}
		if want != nil {
			wantBlock(t, "again", want, b)
		}
	}
	syms, beside, _ := impl.Symbols(slowFind(b))
	clear(syms)
	spoil(beside.B)
	seqsComeBack(t, slowFind(b))
}
