package tests

import (
	"fmt"
	"math"
	"slices"
	"sort"
	"testing"

	"loop.example/g00528/impl"
)

// slowNorm sorts all the quotients that a symbol may have, and gives the places to the first of them.
func slowNorm(counts []int) []int {
	type quotient struct{ sym, count, share int }
	all := []quotient{}
	norm := make([]int, len(counts))
	free := 64
	for s, c := range counts {
		if c == 0 {
			continue
		}
		norm[s] = 1
		free--
		for share := 1; share <= 64; share++ {
			all = append(all, quotient{s, c, share})
		}
	}
	sort.SliceStable(all, func(i, j int) bool {
		return all[i].count*all[j].share > all[j].count*all[i].share
	})
	for _, q := range all[:free] {
		norm[q.sym]++
	}
	return norm
}

func slowSpread(norm []int) []int {
	spread := make([]int, 64)
	n := 0
	for s, share := range norm {
		for range share {
			spread[43*n%64] = s
			n++
		}
	}
	return spread
}

func slowTable(norm []int) []impl.Cell {
	spread := slowSpread(norm)
	cells := []impl.Cell{}
	for place, s := range spread {
		x := norm[s]
		for _, ahead := range spread[:place] {
			if ahead == s {
				x++
			}
		}
		c := impl.Cell{Sym: s}
		for x<<c.Bits < 64 {
			c.Bits++
		}
		c.Base = x<<c.Bits - 64
		cells = append(cells, c)
	}
	return cells
}

// waysTo are the cells of the symbol from which the place is come to.
func waysTo(cells []impl.Cell, sym int, place int) []int {
	l := []int{}
	for i, c := range cells {
		if c.Sym == sym && place >= c.Base && place <= c.Base+1<<c.Bits-1 {
			l = append(l, i)
		}
	}
	return l
}

func slowFsePut(norm []int, text []int) bitList {
	cells := slowTable(norm)
	place := 0
	x := bitList{}
	for i := len(text) - 1; i >= 0; i-- {
		next := waysTo(cells, text[i], place)[0]
		x = joined(x, listOf(place-cells[next].Base, cells[next].Bits))
		place = next
	}
	return joined(x, listOf(place, 6))
}

func slowNormBits(norm []int) bitList {
	x := bitList{}
	left := 64
	for _, share := range norm {
		width := 0
		for left>>width > 0 {
			width++
		}
		x = joined(x, listOf(share, width))
		left -= share
		if left == 0 {
			break
		}
	}
	return x
}

// wrongNorms are not NormOk, each for one reason.
func wrongNorms() map[string][]int {
	return map[string][]int{
		"nil":                        nil,
		"no shares":                  {},
		"one share of 0":             {0},
		"MaxSyms shares of 0":        make([]int, impl.MaxSyms),
		"one too many, of 0":         listed([]int{64}, make([]int, impl.MaxSyms)),
		"one too many":               listed([]int{32}, make([]int, impl.MaxSyms-1), []int{32}),
		"very many":                  listed([]int{64}, make([]int, 100000)),
		"-1":                         {-1},
		"-1 that the sum needs":      {64, 1, -1},
		"-1 ahead":                   {-1, 64, 1},
		"TableSize + 1":              {65},
		"TableSize + 1 and -1":       {65, -1},
		"the least":                  {math.MinInt, 64},
		"the greatest":               {math.MaxInt},
		"a sum that goes round":      {math.MaxInt, math.MaxInt, 66},
		"below TableSize by 1":       {63},
		"below TableSize by 1, two":  {31, 32},
		"above TableSize by 1":       {64, 1},
		"above TableSize by 1, two":  {32, 33},
		"twice TableSize":            {64, 64},
		"TableSize + 1 shares of 1":  alike(65, 1),
		"TableSize - 1 shares of 1":  alike(63, 1),
		"MaxSyms shares of 1":        alike(impl.MaxSyms, 1),
		"MaxSyms shares of the most": alike(impl.MaxSyms, 64),
	}
}

// rightNorms are NormOk, with the edges among them.
func rightNorms() [][]int {
	return [][]int{
		{64}, {0, 64}, {64, 0}, {0, 0, 64, 0}, {32, 32}, {63, 1}, {1, 63}, {33, 31}, {31, 33}, {48, 0, 16}, {16, 0, 48},
		{1, 62, 1}, {62, 1, 1}, {1, 1, 62}, {0, 7, 0, 0, 50, 7, 0}, {21, 22, 21}, {1, 2, 4, 8, 16, 33}, {33, 16, 8, 4, 2, 1},
		alike(64, 1), alike(32, 2), listed(alike(16, 0), alike(64, 1)), listed(alike(64, 1), alike(16, 0)),
		listed([]int{64}, make([]int, impl.MaxSyms-1)),
		listed(make([]int, impl.MaxSyms-1), []int{64}),
		listed([]int{1}, make([]int, impl.MaxSyms-2), []int{63}),
		listed(alike(63, 1), make([]int, impl.MaxSyms-64), []int{1}),
	}
}

// someNorms are many others, too, that come of counts.
func someNorms() [][]int {
	all := rightNorms()
	for n := 1; n <= impl.MaxSyms; n += 3 {
		for i, top := range []int{1, 4, 60, 1000000} {
			counts := picked(n, top, uint64(7*n+i))
			if there := thereOf(counts); there > 0 && there <= 64 {
				all = append(all, slowNorm(counts))
			}
		}
	}
	return all
}

func thereOf(counts []int) int {
	n := 0
	for _, c := range counts {
		if c > 0 {
			n++
		}
	}
	return n
}

func sharing(norm []int) []int {
	l := []int{}
	for s, share := range norm {
		if share > 0 {
			l = append(l, s)
		}
	}
	return l
}

// told gives a text of symbols that have a share.
func told(norm []int, size int, seed uint64) []int {
	there := sharing(norm)
	text := picked(size, len(there)-1, seed)
	for i, v := range text {
		text[i] = there[v]
	}
	return text
}

func wantNoCells(t *testing.T, name string, got []impl.Cell, ok bool) {
	t.Helper()
	if ok || len(got) != 0 {
		t.Fatalf("%s: %v %v, want nothing and false", name, got, ok)
	}
}

func TestNormOk(t *testing.T) {
	for name, l := range wrongNorms() {
		if impl.NormOk(l) {
			t.Errorf("%s: accepted", name)
		}
	}
	for _, l := range rightNorms() {
		if !impl.NormOk(l) {
			t.Errorf("%v: refused", l)
		}
	}
	for n := range 5 {
		eachList(n, []int{-1, 0, 1, 31, 32, 33, 63, 64, 65}, func(l []int) {
			sum, fine := 0, n > 0
			for _, v := range l {
				sum += v
				fine = fine && v >= 0 && v <= 64
			}
			if impl.NormOk(l) != (fine && sum == 64) {
				t.Fatalf("NormOk of %v is %v", l, impl.NormOk(l))
			}
		})
	}
	room := []int{32, 32, 1}
	if !impl.NormOk(room[:2]) || impl.NormOk(room[:1]) || impl.NormOk(room[:0]) {
		t.Error("spare room is read")
	}
	if impl.TableSize != 64 || impl.TableLog != 6 {
		t.Error("the table has another size")
	}
}

// What the rounds give is written out here by hand: a quotient that is alike goes to the first symbol.
func TestNormByHand(t *testing.T) {
	for _, c := range []struct {
		name   string
		counts []int
		want   []int
	}{
		{"one alone", []int{1}, []int{64}},
		{"one alone among noughts", []int{0, 0, 1000000, 0}, []int{0, 0, 64, 0}},
		{"two alike", []int{5, 5}, []int{32, 32}},
		{"three alike: the first has one more", []int{1, 1, 1}, []int{22, 21, 21}},
		{"three alike with noughts", []int{0, 9, 0, 9, 9}, []int{0, 22, 0, 21, 21}},
		{"five alike: the first four have one more", []int{7, 7, 7, 7, 7}, []int{13, 13, 13, 13, 12}},
		{"alike quotients, the greater count first", []int{2, 1}, []int{43, 21}},
		{"alike quotients, the less count first", []int{1, 2}, []int{22, 42}},
		{"alike quotients of three", []int{3, 1, 1}, []int{38, 13, 13}},
		{"alike quotients of three, turned", []int{1, 1, 3}, []int{13, 13, 38}},
		{"three to one", []int{3, 0, 1}, []int{48, 0, 16}},
		{"one to three", []int{1, 3}, []int{16, 48}},
		{"one to sixty-three", []int{1, 63}, []int{1, 63}},
		{"one to a million", []int{1, 1000000}, []int{1, 63}},
		{"a million to one", []int{1000000, 1}, []int{63, 1}},
		{"one to a million, twice", []int{1, 1000000, 1}, []int{1, 62, 1}},
		{"quotients below 1", []int{2, 3}, []int{26, 38}},
		{"one more there than another", []int{64, 65, 64}, []int{21, 22, 21}},
		{"just TableSize", alike(64, 7), alike(64, 1)},
		{"just TableSize, of other counts", listed(alike(63, 1), []int{1000000}), alike(64, 1)},
		{"one less than TableSize, alike", alike(63, 3), listed([]int{2}, alike(62, 1))},
		{"one less than TableSize", listed(alike(62, 3), []int{4}), listed(alike(62, 1), []int{2})},
		{"just TableSize of MaxSyms", listed(alike(16, 0), alike(64, 2)), listed(alike(16, 0), alike(64, 1))},
	} {
		got, ok := impl.Norm(c.counts)
		wantList(t, c.name, got, ok, c.want)
	}
}

// normHolds tells what promise 3 asks of shares.
func normHolds(t *testing.T, counts []int) {
	t.Helper()
	norm, ok := impl.Norm(counts)
	there := thereOf(counts)
	if there == 0 || there > 64 {
		wantNoList(t, "Norm", norm, ok)
		return
	}
	if !ok || len(norm) != len(counts) || !impl.NormOk(norm) {
		t.Fatalf("Norm of %v: %v %v", counts, norm, ok)
	}
	if want := slowNorm(counts); !slices.Equal(norm, want) {
		t.Fatalf("Norm of %v: %v, want %v", counts, norm, want)
	}
	for i, c := range counts {
		if (c > 0) != (norm[i] > 0) {
			t.Fatalf("Norm of %v: %v: a share for what is not there, or none", counts, norm)
		}
		for j, d := range counts {
			if c > d && norm[i] < norm[j] {
				t.Fatalf("Norm of %v: %v: less for what is there more often", counts, norm)
			}
		}
	}
}

func TestNormOverFewSymbols(t *testing.T) {
	for n := 1; n <= 4; n++ {
		eachList(n, []int{0, 1, 2, 3, 6}, func(counts []int) { normHolds(t, counts) })
	}
	eachList(3, []int{0, 1, 63, 64, 65, 128, 999999, 1000000}, func(counts []int) { normHolds(t, counts) })
}

func TestNormOverManySymbols(t *testing.T) {
	for n := 1; n <= impl.MaxSyms; n++ {
		for i, top := range []int{1, 2, 9, 300, 1000000} {
			normHolds(t, picked(n, top, uint64(10*n+i)))
		}
		normHolds(t, alike(n, 1))
		normHolds(t, alike(n, 1000000))
		normHolds(t, powers(n))
		normHolds(t, upTo(n-1))
	}
}

func TestNormRefuses(t *testing.T) {
	for name, counts := range map[string][]int{
		"nil": nil, "none": {}, "a nought": {0}, "noughts": make([]int, impl.MaxSyms),
		"one more than TableSize":            alike(65, 1),
		"one more than TableSize of MaxSyms": listed(alike(15, 0), alike(65, 1)),
		"MaxSyms that are there":             alike(impl.MaxSyms, 1000000),
		"one more than MaxSyms":              listed([]int{1}, make([]int, impl.MaxSyms)),
		"-1":                                 {1, -1},
		"one too great":                      {1, 1000001},
		"the least":                          {math.MinInt, 1},
		"the greatest":                       {math.MaxInt, 1},
	} {
		got, ok := impl.Norm(counts)
		wantNoList(t, name, got, ok)
	}
	got, ok := impl.Norm(listed([]int{1}, make([]int, impl.MaxSyms-1)))
	wantList(t, "just MaxSyms", got, ok, listed([]int{64}, make([]int, impl.MaxSyms-1)))
	room := []int{1, 1, -1}
	got, ok = impl.Norm(room[:2])
	wantList(t, "spare room", got, ok, []int{32, 32})
}

func TestSpread(t *testing.T) {
	for _, norm := range someNorms() {
		got, ok := impl.Spread(norm)
		wantList(t, "Spread", got, ok, slowSpread(norm))
		counts, fine := impl.Counts(got, len(norm))
		wantList(t, "as often as its share", counts, fine, norm)
	}
	for name, l := range wrongNorms() {
		got, ok := impl.Spread(l)
		wantNoList(t, name, got, ok)
	}
}

// Places follow each other by 43: 0, 43, 22, 1 and so on, up to 42 and 21, the last ones.
func TestSpreadByHand(t *testing.T) {
	got, _ := impl.Spread(alike(64, 1))
	for n, place := range []int{0, 43, 22, 1, 44, 23, 2, 45} {
		if len(got) != 64 || got[place] != n {
			t.Fatalf("place %d: %v", place, got)
		}
	}
	got, ok := impl.Spread([]int{62, 0, 1, 1})
	want := make([]int, 64)
	want[42], want[21] = 2, 3
	wantList(t, "the last places", got, ok, want)
	got, ok = impl.Spread([]int{1, 62, 1})
	want = alike(64, 1)
	want[0], want[21] = 0, 2
	wantList(t, "the first and the last place", got, ok, want)
	got, ok = impl.Spread([]int{0, 64})
	wantList(t, "one alone", got, ok, alike(64, 1))
	room := []int{64, 1}
	got, ok = impl.Spread(room[:1])
	wantList(t, "spare room", got, ok, make([]int, 64))
}

// From each place each symbol that has a share is come to in just one way.
func TestTable(t *testing.T) {
	for _, norm := range someNorms() {
		cells, ok := impl.Table(norm)
		if !ok || !slices.Equal(cells, slowTable(norm)) {
			t.Fatalf("Table of %v: %v %v, want %v", norm, cells, ok, slowTable(norm))
		}
		for s, share := range norm {
			for place := range 64 {
				if ways := waysTo(cells, s, place); len(ways) != min(share, 1) {
					t.Fatalf("Table of %v: %d is come to from %d by %v", norm, s, place, ways)
				}
			}
		}
		for _, c := range cells {
			if c.Base < 0 || c.Bits < 0 || c.Base+1<<c.Bits > 64 {
				t.Fatalf("Table of %v: %v", norm, c)
			}
		}
	}
	for name, l := range wrongNorms() {
		got, ok := impl.Table(l)
		wantNoCells(t, name, got, ok)
	}
}

func TestTableByHand(t *testing.T) {
	alone, _ := impl.Table([]int{0, 64})
	each, _ := impl.Table(alike(64, 1))
	two, _ := impl.Table([]int{63, 1})
	if len(alone) != 64 || len(each) != 64 || len(two) != 64 {
		t.Fatal(alone, each, two)
	}
	spread, _ := impl.Spread(alike(64, 1))
	for i := range 64 {
		if alone[i] != (impl.Cell{Sym: 1, Base: i}) {
			t.Fatalf("one alone: cell %d is %v", i, alone[i])
		}
		if each[i] != (impl.Cell{Sym: spread[i], Bits: 6}) {
			t.Fatalf("shares of 1: cell %d is %v", i, each[i])
		}
	}
	for i, want := range map[int]impl.Cell{
		0: {Sym: 0, Bits: 1, Base: 62}, 1: {Sym: 0, Base: 0}, 20: {Sym: 0, Base: 19},
		21: {Sym: 1, Bits: 6}, 22: {Sym: 0, Base: 20}, 63: {Sym: 0, Base: 61},
	} {
		if two[i] != want {
			t.Fatalf("63 and 1: cell %d is %v, want %v", i, two[i], want)
		}
	}
}

func TestTextsComeBackFromTheTable(t *testing.T) {
	for i, norm := range someNorms() {
		for _, size := range []int{0, 1, 2, 3, 40, impl.MaxText - 1, impl.MaxText} {
			text := told(norm, size, uint64(i+size))
			x, ok := impl.FsePut(norm, text)
			wantBits(t, "FsePut", x, ok, slowFsePut(norm, text))
			got, fine := impl.FseGet(norm, x, size)
			wantList(t, "FseGet", got, fine, text)
			if slices.Max(norm) == 64 {
				continue
			}
			for _, other := range []int{0, size / 2, size - 1, size + 1, size + 7, impl.MaxText} {
				if other != size {
					got, fine = impl.FseGet(norm, x, other)
					wantNoList(t, fmt.Sprintf("%d symbols as %d", size, other), got, fine)
				}
			}
		}
	}
}

// A symbol that has the whole table has no bits: texts of it are alike but for how many there are.
func TestOneSymbolAloneHasNoBits(t *testing.T) {
	for _, norm := range [][]int{{64}, {0, 0, 64, 0}} {
		for _, size := range []int{0, 1, 5, impl.MaxText} {
			text := told(norm, size, 1)
			x, ok := impl.FsePut(norm, text)
			wantBits(t, "one alone", x, ok, make(bitList, 6))
			got, fine := impl.FseGet(norm, x, size)
			wantList(t, "one alone", got, fine, text)
		}
		for v := range 64 {
			got, ok := impl.FseGet(norm, listOf(v, 6).bits(), 3)
			if v != 0 {
				wantNoList(t, fmt.Sprint("place ", v), got, ok)
			}
		}
	}
}

// The place is 0 ahead of the last symbol, and the first symbol's cell is the place that stands at the end.
func TestFsePutByHand(t *testing.T) {
	for _, c := range []struct {
		norm []int
		text []int
		want string
	}{
		{[]int{63, 1}, nil, "000000"},
		{[]int{63, 1}, []int{0}, "100000"},
		{[]int{63, 1}, []int{1}, "000000" + "101010"},
		{[]int{63, 1}, []int{1, 0}, "100000" + "101010"},
		{[]int{63, 1}, []int{0, 1}, "000000" + "111010"},
		{[]int{63, 1}, []int{0, 0}, "010000"},
		{[]int{63, 1}, []int{1, 1}, "000000" + "101010" + "101010"},
		{[]int{32, 32}, []int{0}, "0" + "000000"},
		{alike(64, 1), []int{1}, "000000" + "110101"},
		{alike(64, 1), []int{2, 1}, "000000" + "110101" + "011010"},
		{alike(64, 1), []int{1, 2}, "000000" + "011010" + "110101"},
	} {
		x, ok := impl.FsePut(c.norm, c.text)
		wantBits(t, fmt.Sprint("FsePut of ", c.norm, c.text), x, ok, bitsOfText(c.want))
		got, fine := impl.FseGet(c.norm, bitsOfText(c.want).bits(), len(c.text))
		wantList(t, "FseGet of "+c.want, got, fine, c.text)
	}
}

// Of all bits just those are read that a text of so many symbols is put as.
func TestFseGetOfAllBits(t *testing.T) {
	for _, norm := range [][]int{{64}, {63, 1}, {1, 63}, {32, 0, 32}, {40, 20, 4}, {16, 16, 16, 16}, {5, 57, 2}} {
		for n := range 4 {
			texts := map[string][]int{}
			eachList(n, sharing(norm), func(text []int) {
				texts[keyOf(slowFsePut(norm, text))] = text
			})
			for size := range 15 {
				for v := range 1 << size {
					l := listOf(v, size)
					got, ok := impl.FseGet(norm, l.bits(), n)
					if text, is := texts[keyOf(l)]; is {
						wantList(t, "FseGet", got, ok, text)
					} else {
						wantNoList(t, "FseGet", got, ok)
					}
				}
			}
		}
	}
}

func keyOf(l bitList) string {
	b := make([]byte, len(l))
	for i, one := range l {
		b[i] = '0'
		if one {
			b[i] = '1'
		}
	}
	return string(b)
}

// fseReadIsPut tells whether bits are read as a text, which is put as just these bits then.
func fseReadIsPut(t *testing.T, norm []int, l bitList, n int) bool {
	t.Helper()
	text, ok := impl.FseGet(norm, l.bits(), n)
	if !ok {
		wantNoList(t, "no text", text, ok)
		return false
	}
	x, fine := impl.FsePut(norm, text)
	wantBits(t, "FsePut of what was read", x, fine, l)
	if len(text) != n {
		t.Fatalf("%d symbols, not %d", len(text), n)
	}
	return true
}

func TestFseGetOfSpoiltBits(t *testing.T) {
	read := 0
	for i, norm := range someNorms() {
		want := slowFsePut(norm, told(norm, 30, uint64(i)))
		for at := range want {
			spoilt := slices.Clone(want)
			spoilt[at] = !spoilt[at]
			for n := 20; n <= 40; n++ {
				if fseReadIsPut(t, norm, spoilt, n) {
					read++
				}
			}
		}
		for size := range 60 {
			for n := range 12 {
				if fseReadIsPut(t, norm, mixed(size, uint64(i)), n) {
					read++
				}
			}
		}
	}
	if read == 0 {
		t.Fatal("nothing was read at all")
	}
}

// A bit more or less, at either end, makes another text or none.
func TestFseGetOfLongerAndShorterBits(t *testing.T) {
	for i, norm := range someNorms() {
		text := told(norm, 25, uint64(i))
		want := slowFsePut(norm, text)
		for _, other := range []bitList{want[1:], want[:len(want)-1], joined(want, bitList{false}), joined(want, bitList{true}),
			joined(bitList{false}, want), joined(bitList{true}, want), joined(make(bitList, 8), want), {}} {
			got, ok := impl.FseGet(norm, other.bits(), 25)
			if ok && slices.Equal(got, text) {
				t.Fatalf("other bits are read as the text over %v", norm)
			}
			fseReadIsPut(t, norm, other, 25)
		}
	}
}

func TestFsePutRefuses(t *testing.T) {
	for name, norm := range wrongNorms() {
		x, ok := impl.FsePut(norm, nil)
		wantNoBits(t, name, x, ok)
		x, ok = impl.FsePut(norm, []int{0})
		wantNoBits(t, name, x, ok)
	}
	norm := []int{20, 0, 14, 30}
	for _, s := range []int{math.MinInt, -1, 1, 4, 5, math.MaxInt} {
		for _, text := range [][]int{{s}, {0, 2, 3, s}, {s, 3, 0}, {2, s, 0}} {
			x, ok := impl.FsePut(norm, text)
			wantNoBits(t, fmt.Sprint(text), x, ok)
		}
	}
	x, ok := impl.FsePut(norm, alike(impl.MaxText+1, 3))
	wantNoBits(t, "one symbol more than MaxText", x, ok)
	x, ok = impl.FsePut([]int{64}, alike(impl.MaxText+1, 0))
	wantNoBits(t, "one more than MaxText of one alone", x, ok)
	x, ok = impl.FsePut(norm, alike(impl.MaxText, 3))
	wantBits(t, "just MaxText", x, ok, slowFsePut(norm, alike(impl.MaxText, 3)))
	x, ok = impl.FsePut(norm, nil)
	wantBits(t, "the empty text", x, ok, make(bitList, 6))
	room := []int{3, 9}
	x, ok = impl.FsePut(norm, room[:1])
	wantBits(t, "spare room", x, ok, slowFsePut(norm, []int{3}))
}

// The longest text of the least shares has fewer bits than MaxBits: there is always room for it.
func TestLongestTextIsPutByTheTable(t *testing.T) {
	norm := alike(64, 1)
	text := told(norm, impl.MaxText, 2)
	x, ok := impl.FsePut(norm, text)
	if !ok || x.N != 6*impl.MaxText+6 || x.N > impl.MaxBits {
		t.Fatal(x.N, ok)
	}
	got, ok := impl.FseGet(norm, x, impl.MaxText)
	wantList(t, "the longest", got, ok, text)
}

func TestFseGetRefuses(t *testing.T) {
	norm := []int{20, 0, 14, 30}
	for name, wrong := range wrongNorms() {
		got, ok := impl.FseGet(wrong, make(bitList, 6).bits(), 0)
		wantNoList(t, name, got, ok)
	}
	for name, wrong := range wrongBits() {
		for n := range 3 {
			got, ok := impl.FseGet([]int{64}, wrong, n)
			wantNoList(t, name, got, ok)
		}
	}
	for _, n := range []int{math.MinInt, -1, impl.MaxText + 1, math.MaxInt} {
		got, ok := impl.FseGet([]int{64}, make(bitList, 6).bits(), n)
		wantNoList(t, fmt.Sprint("n is ", n), got, ok)
		got, ok = impl.FseGet(norm, make(bitList, 1200).bits(), n)
		wantNoList(t, fmt.Sprint("n is ", n), got, ok)
	}
	got, ok := impl.FseGet([]int{64}, make(bitList, 6).bits(), impl.MaxText)
	wantList(t, "just MaxText", got, ok, alike(impl.MaxText, 0))
	got, ok = impl.FseGet(norm, make(bitList, 6).bits(), 0)
	wantList(t, "the empty text", got, ok, nil)
	for size := range 20 {
		got, ok = impl.FseGet(norm, ones(size).bits(), 0)
		wantNoList(t, "bits that are no empty text", got, ok)
		if size != 6 {
			got, ok = impl.FseGet(norm, make(bitList, size).bits(), 0)
			wantNoList(t, fmt.Sprint(size, " noughts for the empty text"), got, ok)
		}
	}
}

func TestSharesComeBack(t *testing.T) {
	for _, norm := range someNorms() {
		want := slowNormBits(norm)
		x, ok := impl.NormPut(norm)
		wantBits(t, "NormPut", x, ok, want)
		for _, ahead := range []int{0, 1, 8, 15} {
			y := joined(joined(mixed(ahead, 5), want), mixed(11, 6))
			got, next, fine := impl.NormGet(y.bits(), ahead, len(norm))
			wantRead(t, fmt.Sprint("behind ", ahead), got, next, fine, norm, ahead+len(want))
		}
		got, next, fine := impl.NormGet(x, 0, len(norm))
		wantRead(t, "NormGet", got, next, fine, norm, x.N)
		for cut := range want {
			got, next, fine = impl.NormGet(want[:cut].bits(), 0, len(norm))
			wantNoRead(t, "cut off", got, next, fine)
		}
	}
}

func TestNormPutByHand(t *testing.T) {
	for _, c := range []struct {
		norm []int
		text string
	}{
		{[]int{64}, "0000001"},
		{[]int{64, 0, 0}, "0000001"},
		{listed([]int{64}, make([]int, impl.MaxSyms-1)), "0000001"},
		{[]int{0, 64}, "0000000" + "0000001"},
		{[]int{0, 64, 0}, "0000000" + "0000001"},
		{[]int{32, 32}, "0000010" + "000001"},
		{[]int{33, 31}, "1000010" + "11111"},
		{[]int{48, 0, 16}, "0000110" + "00000" + "00001"},
		{[]int{48, 0, 16, 0}, "0000110" + "00000" + "00001"},
		{[]int{1, 63}, "1000000" + "111111"},
		{[]int{63, 1}, "1111110" + "1"},
		{[]int{63, 0, 0, 1, 0, 0}, "1111110" + "0" + "0" + "1"},
		{[]int{60, 2, 1, 1}, "0011110" + "010" + "10" + "1"},
	} {
		x, ok := impl.NormPut(c.norm)
		wantBits(t, fmt.Sprint("NormPut of ", c.norm), x, ok, bitsOfText(c.text))
		got, next, fine := impl.NormGet(bitsOfText(c.text).bits(), 0, len(c.norm))
		wantRead(t, c.text, got, next, fine, c.norm, len(c.text))
	}
	for name, l := range wrongNorms() {
		x, ok := impl.NormPut(l)
		wantNoBits(t, name, x, ok)
	}
	room := []int{64, 5}
	x, ok := impl.NormPut(room[:1])
	wantBits(t, "spare room", x, ok, bitsOfText("0000001"))
}

// Bits that no shares are put as are read as none.
func TestNormGetRefusesOtherBits(t *testing.T) {
	for _, c := range []struct {
		name string
		text string
		syms int
	}{
		{"TableSize + 1", "1000001", 1},
		{"the most that seven bits tell", "1111111", 2},
		{"one more than what is left", "1000010" + "00000", 2},
		{"a share above what is left", "0000110" + "10001", 2},
		{"3 of the 2 that are left", "0111110" + "11", 2},
		{"below TableSize by 1", "1111110", 1},
		{"one symbol too few", "0000010" + "100001" + "1", 2},
		{"noughts alone", "0000000" + "0000000", 2},
		{"a nought alone", "0000000", 1},
		{"the last is a nought", "0000010" + "000000", 2},
	} {
		x := joined(bitsOfText(c.text), make(bitList, 30))
		got, next, ok := impl.NormGet(x.bits(), 0, c.syms)
		wantNoRead(t, c.name, got, next, ok)
	}
}

// Of all bits just those are read that some shares are put as.
func TestNormGetOfAllBits(t *testing.T) {
	for syms := 1; syms <= 3; syms++ {
		shares := map[string][]int{}
		eachList(syms, upTo(64), func(l []int) {
			if impl.NormOk(l) {
				shares[keyOf(slowNormBits(l))] = l
			}
		})
		for v := range 1 << 15 {
			l := listOf(v, 15)
			key := keyOf(l)
			got, next, ok := impl.NormGet(l.bits(), 0, syms)
			size := 1
			for size < len(key) && shares[key[:size]] == nil {
				size++
			}
			if norm := shares[key[:size]]; norm != nil {
				wantRead(t, "NormGet", got, next, ok, norm, size)
			} else {
				wantNoRead(t, "NormGet", got, next, ok)
			}
		}
	}
}

// normReadIsPut tells whether bits are read as shares, which are put as just these bits then.
func normReadIsPut(t *testing.T, l bitList, at int, syms int) bool {
	t.Helper()
	norm, next, ok := impl.NormGet(l.bits(), at, syms)
	if !ok {
		wantNoRead(t, "no shares", norm, next, ok)
		return false
	}
	if len(norm) != syms || !impl.NormOk(norm) || next < at || next > len(l) {
		t.Fatalf("NormGet of %v: %v %d", l, norm, next)
	}
	x, fine := impl.NormPut(norm)
	wantBits(t, "NormPut of what was read", x, fine, l[at:next])
	return true
}

func TestNormGetOfSpoiltBits(t *testing.T) {
	read := 0
	for _, norm := range someNorms() {
		want := joined(slowNormBits(norm), mixed(30, 8))
		for i := range want {
			spoilt := slices.Clone(want)
			spoilt[i] = !spoilt[i]
			for _, syms := range []int{len(norm) - 1, len(norm), len(norm) + 1} {
				if normReadIsPut(t, spoilt, 0, syms) {
					read++
				}
			}
			normReadIsPut(t, want, i, len(norm))
		}
	}
	if read == 0 {
		t.Fatal("nothing was read at all")
	}
}

func TestNormGetRefuses(t *testing.T) {
	l := slowNormBits([]int{48, 0, 16})
	for name, wrong := range wrongBits() {
		got, next, ok := impl.NormGet(wrong, 0, 1)
		wantNoRead(t, name, got, next, ok)
	}
	for _, at := range []int{math.MinInt, -1, 1, len(l), len(l) + 1, math.MaxInt} {
		got, next, ok := impl.NormGet(l.bits(), at, 3)
		wantNoRead(t, fmt.Sprint("at ", at), got, next, ok)
	}
	whole := joined(bitsOfText("0000001"), make(bitList, 600))
	for _, syms := range []int{math.MinInt, -1, 0, impl.MaxSyms + 1, math.MaxInt} {
		for _, x := range []impl.Bits{{}, l.bits(), whole.bits()} {
			got, next, ok := impl.NormGet(x, 0, syms)
			wantNoRead(t, fmt.Sprint("syms ", syms), got, next, ok)
		}
	}
	got, next, ok := impl.NormGet(whole.bits(), 0, impl.MaxSyms)
	wantRead(t, "just MaxSyms", got, next, ok, listed([]int{64}, make([]int, impl.MaxSyms-1)), 7)
	got, next, ok = impl.NormGet(whole.bits(), 0, 1)
	wantRead(t, "one symbol", got, next, ok, []int{64}, 7)
	got, next, ok = impl.NormGet(l.bits(), 0, impl.MaxSyms)
	wantRead(t, "noughts behind the last bit", got, next, ok, listed([]int{48, 0, 16}, make([]int, impl.MaxSyms-3)), len(l))
	end := joined(mixed(impl.MaxBits-len(l), 9), l)
	got, next, ok = impl.NormGet(end.bits(), impl.MaxBits-len(l), 3)
	wantRead(t, "at the end of MaxBits", got, next, ok, []int{48, 0, 16}, impl.MaxBits)
	got, next, ok = impl.NormGet(impl.Bits{}, 0, 1)
	wantNoRead(t, "no bits", got, next, ok)
}

func TestFseArgumentsStay(t *testing.T) {
	for i, norm := range rightNorms() {
		text := told(norm, 40, uint64(i))
		x, _ := impl.FsePut(norm, text)
		put, _ := impl.NormPut(norm)
		keepsListApart(t, "NormOk", norm, func(l []int) []int { impl.NormOk(l); return nil })
		keepsListApart(t, "Norm", norm, func(l []int) []int { got, _ := impl.Norm(l); return got })
		keepsListApart(t, "Spread", norm, func(l []int) []int { got, _ := impl.Spread(l); return got })
		keepsListApart(t, "Table", norm, func(l []int) []int { impl.Table(l); return nil })
		keepsListApart(t, "FsePut", norm, func(l []int) []int { impl.FsePut(l, text); return nil })
		keepsListApart(t, "FsePut", text, func(l []int) []int { impl.FsePut(norm, l); return nil })
		keepsListApart(t, "FseGet", norm, func(l []int) []int { got, _ := impl.FseGet(l, x, 40); return got })
		keepsListApart(t, "NormPut", norm, func(l []int) []int { impl.NormPut(l); return nil })
		for _, l := range []bitList{textBits(x), textBits(put)} {
			keepsApart(t, "FseGet", l, func(y impl.Bits) []byte { impl.FseGet(norm, y, 40); return nil })
			keepsApart(t, "NormGet", l, func(y impl.Bits) []byte { impl.NormGet(y, 0, len(norm)); return nil })
		}
	}
}

// Nothing is kept: answers of one call are not those of another one.
func TestFseKeepsNothing(t *testing.T) {
	norm := []int{62, 1, 1}
	cells, _ := impl.Table(norm)
	spread, _ := impl.Spread(norm)
	x, _ := impl.FsePut(norm, []int{1, 0, 2})
	clear(cells)
	clear(spread)
	spoil(x.B)
	if again, ok := impl.Table(norm); !ok || !slices.Equal(again, slowTable(norm)) {
		t.Fatal("Table again:", again)
	}
	again, ok := impl.Spread(norm)
	wantList(t, "Spread again", again, ok, slowSpread(norm))
	x, ok = impl.FsePut(norm, []int{1, 0, 2})
	wantBits(t, "FsePut again", x, ok, slowFsePut(norm, []int{1, 0, 2}))
}
