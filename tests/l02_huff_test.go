package tests

import (
	"fmt"
	"math"
	"slices"
	"sort"
	"strings"
	"testing"

	"loop.example/g00528/impl"
)

// picked gives n numbers in 0 .. top that look like no pattern, others for each seed.
func picked(n int, top int, seed uint64) []int {
	l := make([]int, n)
	s := seed*2654435761 + 54321
	for i := range l {
		s = s*6364136223846793005 + 1442695040888963407
		l[i] = int(s>>33) % (top + 1)
	}
	return l
}

func alike(n int, value int) []int {
	return slices.Repeat([]int{value}, n)
}

func listed(parts ...[]int) []int {
	return slices.Concat(parts...)
}

// eachList calls do with all lists of n numbers out of from.
func eachList(n int, from []int, do func(l []int)) {
	l := make([]int, n)
	var fill func(i int)
	fill = func(i int) {
		if i == n {
			do(slices.Clone(l))
			return
		}
		for _, v := range from {
			l[i] = v
			fill(i + 1)
		}
	}
	fill(0)
}

func upTo(top int) []int {
	l := []int{}
	for v := range top + 1 {
		l = append(l, v)
	}
	return l
}

// stairs are 1, 2, 3 .. deep, deep: the longest codes that few symbols can have.
func stairs(deep int) []int {
	l := []int{}
	for v := 1; v <= deep; v++ {
		l = append(l, v)
	}
	return append(l, deep)
}

// slowLensOk adds up the shares as parts of 2^20.
func slowLensOk(l []int) bool {
	if len(l) == 0 || len(l) > 80 {
		return false
	}
	codes, parts := 0, 0
	for _, v := range l {
		if v < 0 || v > 12 {
			return false
		}
		if v > 0 {
			codes++
			parts += 1 << 20 / (1 << v)
		}
	}
	if codes == 1 {
		return slices.Max(l) == 1
	}
	return codes > 1 && parts == 1<<20
}

type slowParcel struct {
	weight int
	syms   []int
}

// slowLens follows the document word by word: lists are sorted anew, and parcels hold their symbols.
func slowLens(counts []int, limit int) []int {
	coins := []slowParcel{}
	for s, c := range counts {
		if c > 0 {
			coins = append(coins, slowParcel{c, []int{s}})
		}
	}
	lens := make([]int, len(counts))
	if len(coins) == 1 {
		lens[coins[0].syms[0]] = 1
		return lens
	}
	byWeight := func(l []slowParcel) {
		sort.SliceStable(l, func(i, j int) bool { return l[i].weight < l[j].weight })
	}
	byWeight(coins)
	list := []slowParcel{}
	for range limit {
		packs := []slowParcel{}
		for i := 0; i+1 < len(list); i += 2 {
			packs = append(packs, slowParcel{list[i].weight + list[i+1].weight, listed(list[i].syms, list[i+1].syms)})
		}
		list = append(slices.Clone(coins), packs...)
		byWeight(list)
	}
	for _, p := range list[:2*len(coins)-2] {
		for _, s := range p.syms {
			lens[s]++
		}
	}
	return lens
}

// slowCodes writes the codes as texts, by the document's words.
func slowCodes(lens []int) []string {
	texts := make([]string, len(lens))
	next, step := 0, 0
	for length := 1; length <= impl.MaxLen; length++ {
		for s, l := range lens {
			if l != length {
				continue
			}
			for ; step > 0 && step < length; step++ {
				next *= 2
			}
			step = length
			texts[s] = fmt.Sprintf("%0*b", length, next)
			next++
		}
	}
	return texts
}

func bitsOfText(text string) bitList {
	l := bitList{}
	for _, c := range text {
		l = append(l, c == '1')
	}
	return l
}

// slowLensBits are four bits a length, and three of the noughts that a 0 stands for.
func slowLensBits(lens []int) bitList {
	l := bitList{}
	for i := 0; i < len(lens); {
		l = joined(l, listOf(lens[i], 4))
		if lens[i] != 0 {
			i++
			continue
		}
		more := 0
		for more < 7 && i+1+more < len(lens) && lens[i+1+more] == 0 {
			more++
		}
		l = joined(l, listOf(more, 3))
		i += 1 + more
	}
	return l
}

func costOf(counts []int, lens []int) int {
	n := 0
	for i := range counts {
		n += counts[i] * lens[i]
	}
	return n
}

func wantList(t *testing.T, name string, got []int, ok bool, want []int) {
	t.Helper()
	if !ok || !slices.Equal(got, want) {
		t.Fatalf("%s: %v %v, want %v true", name, got, ok, want)
	}
}

func wantNoList(t *testing.T, name string, got []int, ok bool) {
	t.Helper()
	if ok || len(got) != 0 {
		t.Fatalf("%s: %v %v, want nothing and false", name, got, ok)
	}
}

func wantRead(t *testing.T, name string, got []int, next int, ok bool, want []int, wantNext int) {
	t.Helper()
	if !ok || next != wantNext || !slices.Equal(got, want) {
		t.Fatalf("%s: %v %d %v, want %v %d true", name, got, next, ok, want, wantNext)
	}
}

func wantNoRead(t *testing.T, name string, got []int, next int, ok bool) {
	t.Helper()
	if ok || next != -1 || len(got) != 0 {
		t.Fatalf("%s: %v %d %v, want nothing, -1 and false", name, got, next, ok)
	}
}

// wrongLens are not LensOk, each for one reason.
func wrongLens() map[string][]int {
	return map[string][]int{
		"nil":                           nil,
		"no lengths":                    {},
		"one symbol without a code":     {0},
		"MaxSyms without a code":        make([]int, impl.MaxSyms),
		"one too many without a code":   listed([]int{1, 1}, make([]int, impl.MaxSyms-1)),
		"one too many with a code":      listed(alike(47, 6), alike(34, 7)),
		"very many":                     make([]int, 100000),
		"a length of -1":                {1, 1, -1},
		"the least length":              {1, 1, math.MinInt},
		"a length of MaxLen + 1":        {1, 1, impl.MaxLen + 1},
		"a length of MaxLen + 1, alone": {impl.MaxLen + 1},
		"the greatest length":           {1, 1, math.MaxInt},
		"a length of 64 more":           {1, 1, 64},
		"stairs one too deep":           stairs(impl.MaxLen + 1),
		"one code of length 2":          {2},
		"one code of length 2, noughts": {0, 2, 0},
		"one code of MaxLen":            {impl.MaxLen},
		"two codes, below 1":            {1, 2},
		"two codes of length 2":         {2, 2},
		"three of length 2":             {2, 2, 2},
		"three codes, above 1":          {1, 1, 2},
		"three of length 1":             {1, 1, 1},
		"above 1 by the least share":    listed(stairs(impl.MaxLen), []int{impl.MaxLen}),
		"below 1 by the least share":    stairs(impl.MaxLen)[:impl.MaxLen],
		"twice 1":                       {1, 1, 1, 1},
	}
}

// rightLens are LensOk, with the edges among them.
func rightLens() [][]int {
	return [][]int{
		{1}, {0, 1}, {1, 0}, {1, 1}, {0, 1, 0, 1, 0}, {2, 0, 2, 1}, {1, 2, 2}, {2, 2, 2, 2}, {3, 1, 3, 3, 3},
		stairs(2), stairs(5), stairs(11), stairs(impl.MaxLen),
		slices.Repeat([]int{6}, 64),
		listed(make([]int, impl.MaxSyms-1), []int{1}),
		listed([]int{1}, make([]int, impl.MaxSyms-1)),
		listed([]int{1}, make([]int, impl.MaxSyms-2), []int{1}),
		listed(make([]int, impl.MaxSyms-13), stairs(impl.MaxLen)),
		listed(alike(48, 6), alike(32, 7)),
		listed(alike(32, 7), alike(48, 6)),
		listed([]int{1, 2, 3, 4, 5}, alike(7, 0), alike(62, 11), alike(4, 12)),
	}
}

func TestCountsOk(t *testing.T) {
	for name, l := range map[string][]int{
		"nil": nil, "none": {}, "one too many": make([]int, impl.MaxSyms+1), "very many": make([]int, 100000),
		"-1": {-1}, "-1 behind others": {5, 0, -1}, "one above": {1000001}, "one above behind others": {0, 1000001},
		"the least": {math.MinInt}, "the greatest": {math.MaxInt},
		"the last of MaxSyms one above": listed(alike(impl.MaxSyms-1, 1), []int{1000001}),
	} {
		if impl.CountsOk(l) {
			t.Errorf("%s: accepted", name)
		}
	}
	for _, l := range [][]int{{0}, {1}, {1000000}, {0, 1000000, 7}, alike(impl.MaxSyms, 1000000), make([]int, impl.MaxSyms)} {
		if !impl.CountsOk(l) {
			t.Errorf("%v: refused", l)
		}
	}
	room := []int{3, -1}
	if !impl.CountsOk(room[:1]) || impl.CountsOk(room[:0]) {
		t.Error("spare room is read")
	}
}

func TestCounts(t *testing.T) {
	for syms := 1; syms <= impl.MaxSyms; syms++ {
		for _, size := range []int{0, 1, 2, 17, impl.MaxText} {
			text := picked(size, syms-1, uint64(syms))
			want := make([]int, syms)
			for s := range want {
				for _, v := range text {
					if v == s {
						want[s]++
					}
				}
			}
			got, ok := impl.Counts(text, syms)
			wantList(t, fmt.Sprintf("%d of %d symbols", size, syms), got, ok, want)
			if !impl.CountsOk(got) {
				t.Fatal("counts are not CountsOk:", got)
			}
		}
	}
	got, ok := impl.Counts([]int{2, 0, 2, 2}, 4)
	wantList(t, "2 0 2 2", got, ok, []int{1, 0, 3, 0})
	got, ok = impl.Counts(nil, 3)
	wantList(t, "the empty text", got, ok, []int{0, 0, 0})
}

func TestCountsRefuses(t *testing.T) {
	for _, syms := range []int{math.MinInt, -1, 0, impl.MaxSyms + 1, math.MaxInt} {
		got, ok := impl.Counts(nil, syms)
		wantNoList(t, fmt.Sprint("no text over ", syms), got, ok)
		got, ok = impl.Counts([]int{0}, syms)
		wantNoList(t, fmt.Sprint("a text over ", syms), got, ok)
	}
	for _, wrong := range []int{math.MinInt, -1, 5, 6, math.MaxInt} {
		for _, text := range [][]int{{wrong}, {0, 4, wrong}, {wrong, 4, 0}} {
			got, ok := impl.Counts(text, 5)
			wantNoList(t, fmt.Sprint(text), got, ok)
		}
	}
	got, ok := impl.Counts(make([]int, impl.MaxText+1), 1)
	wantNoList(t, "one symbol more than MaxText", got, ok)
	got, ok = impl.Counts(make([]int, impl.MaxText), 1)
	wantList(t, "just MaxText", got, ok, []int{impl.MaxText})
	got, ok = impl.Counts([]int{impl.MaxSyms}, impl.MaxSyms)
	wantNoList(t, "the symbol MaxSyms", got, ok)
	room := []int{1, 9}
	got, ok = impl.Counts(room[:1], 2)
	wantList(t, "no symbol in the spare room", got, ok, []int{0, 1})
}

func TestLensOk(t *testing.T) {
	for name, l := range wrongLens() {
		if impl.LensOk(l) || slowLensOk(l) {
			t.Errorf("%s: accepted", name)
		}
	}
	for _, l := range rightLens() {
		if !impl.LensOk(l) || !slowLensOk(l) {
			t.Errorf("%v: refused", l)
		}
	}
	for n := range 6 {
		eachList(n, []int{-1, 0, 1, 2, 3, 4, 12, 13}, func(l []int) {
			if impl.LensOk(l) != slowLensOk(l) {
				t.Fatalf("LensOk of %v is %v", l, impl.LensOk(l))
			}
		})
	}
	room := []int{1, 1, 1}
	if !impl.LensOk(room[:2]) || !impl.LensOk(room[:1]) || impl.LensOk(room[:0]) {
		t.Error("spare room is read")
	}
}

// What the rounds give is written out here by hand.
func TestLensOfAlikeOnes(t *testing.T) {
	for _, c := range []struct {
		name   string
		counts []int
		limit  int
		want   []int
	}{
		{"two alike", []int{4, 4}, 1, []int{1, 1}},
		{"three alike: the last is the shortest", []int{1, 1, 1}, 2, []int{2, 2, 1}},
		{"three alike, no near limit", []int{1, 1, 1}, 12, []int{2, 2, 1}},
		{"five alike", []int{7, 7, 7, 7, 7}, 3, []int{3, 3, 2, 2, 2}},
		{"six alike with noughts", []int{1, 0, 1, 1, 1, 0, 1, 1}, 3, []int{3, 0, 3, 3, 3, 0, 2, 2}},
		{"coins ahead of packs of their weight", []int{1, 1, 2, 2}, 12, []int{2, 2, 2, 2}},
		{"the same from behind", []int{2, 2, 1, 1}, 12, []int{2, 2, 2, 2}},
		{"a limit that shapes", []int{8, 4, 2, 1, 1}, 3, []int{1, 3, 3, 3, 3}},
		{"a limit that does not", []int{8, 4, 2, 1, 1}, 4, []int{1, 2, 3, 4, 4}},
		{"just 2^limit", []int{100, 1, 10, 1000}, 2, []int{2, 2, 2, 2}},
		{"just 2^limit with noughts", []int{0, 100, 0, 1}, 1, []int{0, 1, 0, 1}},
		{"one alone", []int{0, 0, 9, 0}, 12, []int{0, 0, 1, 0}},
		{"one alone, limit 1", []int{1000000}, 1, []int{1}},
		{"great counts", []int{1000000, 1000000, 1}, 2, []int{2, 1, 2}},
	} {
		got, ok := impl.Lens(c.counts, c.limit)
		wantList(t, c.name, got, ok, c.want)
	}
}

// lensHold tells what promise 2 asks of lengths.
func lensHold(t *testing.T, counts []int, limit int) {
	t.Helper()
	there := 0
	for _, c := range counts {
		if c > 0 {
			there++
		}
	}
	lens, ok := impl.Lens(counts, limit)
	if there == 0 || there > 1<<limit {
		wantNoList(t, fmt.Sprint(counts, limit), lens, ok)
		return
	}
	wantList(t, fmt.Sprint(counts, limit), lens, ok, slowLens(counts, limit))
	if !impl.LensOk(lens) || !slowLensOk(lens) {
		t.Fatalf("Lens of %v, %d is not LensOk: %v", counts, limit, lens)
	}
	for i, c := range counts {
		if lens[i] > limit || (c == 0) != (lens[i] == 0) {
			t.Fatalf("Lens of %v, %d: %v", counts, limit, lens)
		}
		for j, d := range counts {
			if c > d && d > 0 && lens[i] > lens[j] {
				t.Fatalf("Lens of %v, %d: longer for what is there more often: %v", counts, limit, lens)
			}
		}
	}
}

func TestLensOverFewSymbols(t *testing.T) {
	for n := 1; n <= 5; n++ {
		for limit := 1; limit <= 5; limit++ {
			eachList(n, upTo(3), func(counts []int) { lensHold(t, counts, limit) })
		}
	}
	eachList(7, upTo(1), func(counts []int) {
		for limit := 1; limit <= impl.MaxLen; limit++ {
			lensHold(t, counts, limit)
		}
	})
	eachList(6, []int{1, 2, 5, 1000000}, func(counts []int) { lensHold(t, counts, 3) })
}

func TestLensOverManySymbols(t *testing.T) {
	for n := 1; n <= impl.MaxSyms; n++ {
		for limit := 1; limit <= impl.MaxLen; limit++ {
			for i, top := range []int{1, 2, 9, 300, 1000000} {
				lensHold(t, picked(n, top, uint64(100*n+10*limit+i)), limit)
			}
			lensHold(t, alike(n, 1), limit)
			lensHold(t, alike(n, 1000000), limit)
			lensHold(t, powers(n), limit)
		}
	}
}

// powers grow so fast that the limit shapes the lengths.
func powers(n int) []int {
	l := make([]int, n)
	for i := range l {
		l[i] = min(1<<min(i, 20), 1000000)
	}
	return l
}

func TestLensCostLeast(t *testing.T) {
	for n := 1; n <= 5; n++ {
		for limit := 1; limit <= 5; limit++ {
			all := [][]int{}
			eachList(n, upTo(limit), func(l []int) {
				if slowLensOk(l) {
					all = append(all, l)
				}
			})
			eachList(n, []int{0, 1, 2, 3, 8}, func(counts []int) { costsLeast(t, counts, limit, all) })
		}
	}
}

func costsLeast(t *testing.T, counts []int, limit int, all [][]int) {
	t.Helper()
	lens, ok := impl.Lens(counts, limit)
	if !ok {
		return
	}
	cost, fine := impl.Cost(counts, lens)
	if !fine || cost != costOf(counts, lens) {
		t.Fatalf("Cost of %v, %v: %d %v", counts, lens, cost, fine)
	}
	for _, other := range all {
		if n, is := impl.Cost(counts, other); is && n < cost {
			t.Fatalf("Lens of %v, %d: %v costs %d, but %v %d", counts, limit, lens, cost, other, n)
		}
	}
}

func TestLensRefuses(t *testing.T) {
	for _, limit := range []int{math.MinInt, -1, 0, impl.MaxLen + 1, 64, math.MaxInt} {
		for _, counts := range [][]int{{1}, {1, 1}} {
			got, ok := impl.Lens(counts, limit)
			wantNoList(t, fmt.Sprint("limit ", limit), got, ok)
		}
	}
	for limit := 1; limit <= impl.MaxLen; limit++ {
		for _, counts := range [][]int{nil, {}, {0}, make([]int, impl.MaxSyms), alike(impl.MaxSyms+1, 1), {1, -1}, {1, 1000001}} {
			got, ok := impl.Lens(counts, limit)
			wantNoList(t, fmt.Sprint(counts, limit), got, ok)
		}
	}
	for limit := 1; limit <= 6; limit++ {
		got, ok := impl.Lens(alike(1<<limit, 3), limit)
		wantList(t, fmt.Sprint("just as many as 2^", limit), got, ok, alike(1<<limit, limit))
		got, ok = impl.Lens(alike(1<<limit+1, 3), limit)
		wantNoList(t, fmt.Sprint("one more than 2^", limit), got, ok)
		got, ok = impl.Lens(listed(alike(1<<limit, 3), []int{0}), limit)
		wantList(t, fmt.Sprint("one more that is not there than 2^", limit), got, ok, listed(alike(1<<limit, limit), []int{0}))
	}
	room := []int{1, 1, 1}
	got, ok := impl.Lens(room[:2], 1)
	wantList(t, "spare room", got, ok, []int{1, 1})
}

func TestCost(t *testing.T) {
	for _, lens := range rightLens() {
		for _, top := range []int{0, 1, 20, 1000000} {
			counts := picked(len(lens), top, 5)
			for i, l := range lens {
				if l == 0 {
					counts[i] = 0
				}
			}
			n, ok := impl.Cost(counts, lens)
			if !ok || n != costOf(counts, lens) {
				t.Fatalf("Cost of %v, %v: %d %v", counts, lens, n, ok)
			}
		}
	}
	if n, ok := impl.Cost(alike(13, 1000000), stairs(impl.MaxLen)); !ok || n != 90000000 {
		t.Fatal(n, ok)
	}
	if n, ok := impl.Cost([]int{0, 0}, []int{1, 1}); !ok || n != 0 {
		t.Fatal(n, ok)
	}
}

func TestCostRefuses(t *testing.T) {
	type pair struct{ counts, lens []int }
	wrong := map[string]pair{
		"no counts":                   {nil, []int{1}},
		"a count of -1":               {[]int{-1, 1}, []int{1, 1}},
		"a count one above":           {[]int{1000001, 1}, []int{1, 1}},
		"fewer counts":                {[]int{1}, []int{1, 1}},
		"more counts":                 {[]int{1, 1, 0}, []int{1, 1}},
		"a count without a code":      {[]int{1, 1, 1}, []int{1, 1, 0}},
		"one without a code":          {[]int{0, 1}, []int{1, 0}},
		"one more than MaxSyms, both": {alike(81, 1), listed(alike(47, 6), alike(34, 7))},
	}
	for name, l := range wrongLens() {
		wrong[name] = pair{alike(len(l), 1), l}
		wrong[name+", no counts there"] = pair{make([]int, len(l)), l}
	}
	for name, p := range wrong {
		if n, ok := impl.Cost(p.counts, p.lens); ok || n != 0 {
			t.Errorf("%s: %d %v, want 0 and false", name, n, ok)
		}
	}
}

func TestCodes(t *testing.T) {
	for _, c := range []struct{ lens, want []int }{
		{[]int{1}, []int{0}},
		{[]int{0, 1, 0}, []int{0, 0, 0}},
		{[]int{1, 1}, []int{0, 1}},
		{[]int{2, 0, 2, 1}, []int{2, 0, 3, 0}},
		{[]int{3, 1, 3, 3, 3}, []int{4, 0, 5, 6, 7}},
		{[]int{2, 4, 2, 4, 2, 3}, []int{0, 14, 1, 15, 2, 6}},
		{[]int{4, 4, 1, 4, 4, 4, 4, 4, 4}, []int{8, 9, 0, 10, 11, 12, 13, 14, 15}},
		{[]int{2, 2, 2, 2}, []int{0, 1, 2, 3}},
		{stairs(impl.MaxLen), []int{0, 2, 6, 14, 30, 62, 126, 254, 510, 1022, 2046, 4094, 4095}},
	} {
		got, ok := impl.Codes(c.lens)
		wantList(t, fmt.Sprint("Codes of ", c.lens), got, ok, c.want)
	}
	for name, l := range wrongLens() {
		got, ok := impl.Codes(l)
		wantNoList(t, name, got, ok)
	}
}

func someLens() [][]int {
	all := rightLens()
	for n := 1; n <= impl.MaxSyms; n++ {
		for i, limit := range []int{impl.MaxLen, 8, 7} {
			if l, ok := impl.Lens(picked(n, 40, uint64(7*n+i)), limit); ok {
				all = append(all, l)
			}
		}
	}
	for n := 1; n <= 4; n++ {
		eachList(n, upTo(3), func(l []int) {
			if slowLensOk(l) {
				all = append(all, l)
			}
		})
	}
	return all
}

// Codes are those of the document's words, and none begins another one.
func TestNoCodeBeginsAnother(t *testing.T) {
	for _, lens := range someLens() {
		codes, ok := impl.Codes(lens)
		if !ok || len(codes) != len(lens) {
			t.Fatal(lens, codes, ok)
		}
		texts := slowCodes(lens)
		for i, l := range lens {
			if l == 0 && codes[i] == 0 {
				continue
			}
			if text := fmt.Sprintf("%0*b", l, codes[i]); text != texts[i] || len(text) != l {
				t.Fatalf("Codes of %v: %d has %s, want %s", lens, i, text, texts[i])
			}
			for j := range lens {
				if i != j && lens[j] > 0 && strings.HasPrefix(texts[j], texts[i]) {
					t.Fatalf("Codes of %v: that of %d begins that of %d", lens, i, j)
				}
			}
		}
	}
}

// spoken are texts over those symbols that have a code.
func spoken(lens []int, size int, seed uint64) []int {
	there := []int{}
	for s, l := range lens {
		if l > 0 {
			there = append(there, s)
		}
	}
	text := picked(size, len(there)-1, seed)
	for i, v := range text {
		text[i] = there[v]
	}
	return text
}

func TestTextsComeBack(t *testing.T) {
	for i, lens := range someLens() {
		texts := slowCodes(lens)
		for _, size := range []int{0, 1, 2, 3, 50, impl.MaxText} {
			text := spoken(lens, size, uint64(i+size))
			want := bitList{}
			for _, s := range text {
				want = append(want, bitsOfText(texts[s])...)
			}
			x, ok := impl.HuffPut(lens, text)
			wantBits(t, fmt.Sprint("HuffPut of ", lens, text), x, ok, want)
			counts, _ := impl.Counts(text, len(lens))
			if n, fine := impl.Cost(counts, lens); !fine || n != x.N {
				t.Fatalf("%d bits, but Cost tells %d %v", x.N, n, fine)
			}
			comesBack(t, lens, text, want)
		}
	}
}

func comesBack(t *testing.T, lens []int, text []int, l bitList) {
	t.Helper()
	got, next, ok := impl.HuffGet(lens, l.bits(), 0, len(text))
	wantRead(t, "from 0", got, next, ok, text, len(l))
	for _, ahead := range []int{1, 7, 8, 13} {
		x := joined(joined(mixed(ahead, 3), l), mixed(20, 4)).bits()
		got, next, ok = impl.HuffGet(lens, x, ahead, len(text))
		wantRead(t, fmt.Sprint("behind ", ahead), got, next, ok, text, ahead+len(l))
	}
	if len(text) > 0 {
		got, next, ok = impl.HuffGet(lens, l[:len(l)-1].bits(), 0, len(text))
		wantNoRead(t, "one bit too few", got, next, ok)
		got, next, ok = impl.HuffGet(lens, l.bits(), 0, len(text)-1)
		wantRead(t, "all but one", got, next, ok, text[:len(text)-1], len(l)-lens[text[len(text)-1]])
	}
	if len(text) < impl.MaxText {
		got, next, ok = impl.HuffGet(lens, l.bits(), 0, len(text)+1)
		wantNoRead(t, "one more", got, next, ok)
	}
}

// slowGet reads symbol by symbol whichever code stands there.
func slowGet(lens []int, l bitList, at int, n int) ([]int, int) {
	texts := slowCodes(lens)
	text := []int{}
	for range n {
		found := -1
		for s, code := range texts {
			if end := at + len(code); len(code) > 0 && end <= len(l) && slices.Equal(l[at:end], bitsOfText(code)) {
				found = s
			}
		}
		if found < 0 {
			return nil, -1
		}
		text = append(text, found)
		at += lens[found]
	}
	return text, at
}

func TestHuffGetOfAnyBits(t *testing.T) {
	for _, lens := range someLens() {
		for _, size := range []int{0, 1, 2, 5, 12, 13, 40} {
			l := mixed(size, uint64(size+len(lens)))
			for at := 0; at <= size; at += 3 {
				for n := range 5 {
					name := fmt.Sprintf("HuffGet of %v, %v, %d, %d", lens, l.bits(), at, n)
					want, place := slowGet(lens, l, at, n)
					got, next, ok := impl.HuffGet(lens, l.bits(), at, n)
					if place < 0 {
						wantNoRead(t, name, got, next, ok)
					} else {
						wantRead(t, name, got, next, ok, want, place)
					}
				}
			}
		}
	}
}

// One code alone is a bit 0: a bit 1 is nobody's, how many bits there may follow.
func TestOneCodeAlone(t *testing.T) {
	x, ok := impl.HuffPut([]int{0, 1}, []int{1, 1, 1})
	wantBits(t, "three bits 0", x, ok, make(bitList, 3))
	got, next, fine := impl.HuffGet([]int{0, 1}, make(bitList, 20).bits(), 2, 4)
	wantRead(t, "bits 0", got, next, fine, []int{1, 1, 1, 1}, 6)
	for size := 1; size < 20; size++ {
		got, next, fine = impl.HuffGet([]int{0, 1}, ones(size).bits(), 0, 1)
		wantNoRead(t, "a bit 1", got, next, fine)
		got, next, fine = impl.HuffGet([]int{0, 1}, joined(bitList{true}, make(bitList, size)).bits(), 0, 1)
		wantNoRead(t, "a bit 1, then bits 0", got, next, fine)
		got, next, fine = impl.HuffGet([]int{0, 1}, joined(bitList{false}, ones(size)).bits(), 0, 2)
		wantNoRead(t, "a bit 1 behind a bit 0", got, next, fine)
	}
}

func TestHuffPutRefuses(t *testing.T) {
	for name, lens := range wrongLens() {
		x, ok := impl.HuffPut(lens, nil)
		wantNoBits(t, name, x, ok)
		x, ok = impl.HuffPut(lens, []int{0})
		wantNoBits(t, name, x, ok)
	}
	lens := []int{2, 0, 2, 1}
	for _, s := range []int{math.MinInt, -1, 1, 4, 5, math.MaxInt} {
		for _, text := range [][]int{{s}, {0, 2, 3, s}, {s, 3}} {
			x, ok := impl.HuffPut(lens, text)
			wantNoBits(t, fmt.Sprint(text), x, ok)
		}
	}
	x, ok := impl.HuffPut(lens, alike(impl.MaxText+1, 3))
	wantNoBits(t, "one symbol more than MaxText", x, ok)
	x, ok = impl.HuffPut(lens, alike(impl.MaxText, 3))
	wantBits(t, "just MaxText", x, ok, make(bitList, impl.MaxText))
	x, ok = impl.HuffPut(lens, nil)
	wantBits(t, "the empty text", x, ok, bitList{})
	room := []int{3, 9}
	x, ok = impl.HuffPut(lens, room[:1])
	wantBits(t, "spare room", x, ok, bitList{false})
}

// The longest text of the longest codes has fewer bits than MaxBits: there is always room for it.
func TestLongestTextIsPut(t *testing.T) {
	lens := stairs(impl.MaxLen)
	x, ok := impl.HuffPut(lens, alike(impl.MaxText, impl.MaxLen))
	wantBits(t, "the longest", x, ok, ones(impl.MaxText*impl.MaxLen))
	if x.N > impl.MaxBits {
		t.Fatal("more than MaxBits")
	}
	all := ones(impl.MaxBits)
	at := impl.MaxBits - x.N
	got, next, fine := impl.HuffGet(lens, all.bits(), at, impl.MaxText)
	wantRead(t, "at the end of MaxBits", got, next, fine, alike(impl.MaxText, impl.MaxLen), impl.MaxBits)
	got, next, fine = impl.HuffGet(lens, all.bits(), at+1, impl.MaxText)
	wantNoRead(t, "one bit too late", got, next, fine)
}

func TestHuffGetRefuses(t *testing.T) {
	l := make(bitList, impl.MaxText)
	lens := []int{2, 0, 2, 1}
	for name, wrong := range wrongLens() {
		got, next, ok := impl.HuffGet(wrong, l.bits(), 0, 0)
		wantNoRead(t, name, got, next, ok)
		got, next, ok = impl.HuffGet(wrong, l.bits(), 0, 1)
		wantNoRead(t, name, got, next, ok)
	}
	for name, wrong := range wrongBits() {
		got, next, ok := impl.HuffGet(lens, wrong, 0, 0)
		wantNoRead(t, name, got, next, ok)
	}
	for _, at := range []int{math.MinInt, -1, len(l) + 1, math.MaxInt} {
		for _, n := range []int{0, 1} {
			got, next, ok := impl.HuffGet(lens, l.bits(), at, n)
			wantNoRead(t, fmt.Sprint("at ", at), got, next, ok)
		}
	}
	for _, n := range []int{math.MinInt, -1, impl.MaxText + 1, math.MaxInt} {
		got, next, ok := impl.HuffGet(lens, make(bitList, 2000).bits(), 0, n)
		wantNoRead(t, fmt.Sprint("n is ", n), got, next, ok)
	}
	got, next, ok := impl.HuffGet(lens, l.bits(), 0, impl.MaxText)
	wantRead(t, "just MaxText", got, next, ok, alike(impl.MaxText, 3), impl.MaxText)
	got, next, ok = impl.HuffGet(lens, l.bits(), len(l), 0)
	wantRead(t, "nothing at the end", got, next, ok, nil, len(l))
	got, next, ok = impl.HuffGet(lens, l.bits(), len(l), 1)
	wantNoRead(t, "one at the end", got, next, ok)
	got, next, ok = impl.HuffGet(lens, impl.Bits{}, 0, 0)
	wantRead(t, "nothing of no bits", got, next, ok, nil, 0)
}

func TestLengthsComeBack(t *testing.T) {
	for _, lens := range someLens() {
		want := slowLensBits(lens)
		x, ok := impl.LensPut(lens)
		wantBits(t, fmt.Sprint("LensPut of ", lens), x, ok, want)
		for _, ahead := range []int{0, 1, 8, 15} {
			y := joined(joined(mixed(ahead, 5), want), mixed(11, 6))
			got, next, fine := impl.LensGet(y.bits(), ahead, len(lens))
			wantRead(t, fmt.Sprint(lens, " behind ", ahead), got, next, fine, lens, ahead+len(want))
		}
		got, next, fine := impl.LensGet(x, 0, len(lens))
		wantRead(t, fmt.Sprint(lens), got, next, fine, lens, x.N)
		for cut := range want {
			got, next, fine = impl.LensGet(want[:cut].bits(), 0, len(lens))
			wantNoRead(t, "cut off", got, next, fine)
		}
	}
}

func TestLensPutByHand(t *testing.T) {
	for _, c := range []struct {
		lens []int
		text string
	}{
		{[]int{1}, "1000"},
		{[]int{0, 1}, "0000" + "000" + "1000"},
		{[]int{1, 0, 1}, "1000" + "0000" + "000" + "1000"},
		{[]int{1, 0, 0, 0, 1}, "1000" + "0000" + "010" + "1000"},
		{[]int{1, 1, 0}, "1000" + "1000" + "0000" + "000"},
		{listed([]int{1}, make([]int, 8)), "1000" + "0000" + "111"},
		{listed([]int{1}, make([]int, 8), []int{1}), "1000" + "0000" + "111" + "1000"},
		{listed([]int{1}, make([]int, 9), []int{1}), "1000" + "0000" + "111" + "0000" + "000" + "1000"},
		{listed([]int{1}, make([]int, 9)), "1000" + "0000" + "111" + "0000" + "000"},
		{listed(make([]int, 16), []int{1}), "0000" + "111" + "0000" + "111" + "1000"},
		{listed(make([]int, 18), []int{1}), "0000" + "111" + "0000" + "111" + "0000" + "100" + "1000"},
		{[]int{1, 2, 3, 3}, "1000" + "0100" + "1100" + "1100"},
	} {
		x, ok := impl.LensPut(c.lens)
		wantBits(t, fmt.Sprint("LensPut of ", c.lens), x, ok, bitsOfText(c.text))
		got, next, fine := impl.LensGet(bitsOfText(c.text).bits(), 0, len(c.lens))
		wantRead(t, c.text, got, next, fine, c.lens, len(c.text))
	}
	for name, l := range wrongLens() {
		x, ok := impl.LensPut(l)
		wantNoBits(t, name, x, ok)
	}
}

// Bits that no lengths are put as are read as none, even where they seem to tell of right ones.
func TestLensGetRefusesOtherBits(t *testing.T) {
	for _, c := range []struct {
		name string
		text string
		syms int
	}{
		{"a 0 behind a 0 that tells of none", "1000" + "0000" + "000" + "0000" + "000" + "1000", 4},
		{"a 0 behind six noughts", "1000" + "0000" + "011" + "0000" + "000" + "1000", 10},
		{"a 0 at the end behind six", "1000" + "0000" + "011" + "0000" + "000", 9},
		{"noughts behind noughts", "0000" + "100" + "0000" + "111" + "1000", 11},
		{"more noughts than symbols", "1000" + "1000" + "0000" + "100", 3},
		{"all noughts, more than symbols", "1000" + "0000" + "111", 8},
		{"a length of MaxLen + 1", "1000" + "1000" + "1011", 3},
		{"a length of 15", "1000" + "1000" + "1111", 3},
		{"no code", "0000" + "000", 1},
		{"no codes", "0000" + "111" + "0000" + "111", 16},
		{"one code of length 2", "0100", 1},
		{"one code of length 2, a nought", "0100" + "0000" + "000", 2},
		{"a sum below 1", "1000" + "0100", 2},
		{"a sum above 1", "1000" + "1000" + "1000", 3},
		{"a length cut off", "1000" + "100", 2},
		{"noughts cut off", "1000" + "1000" + "0000" + "00", 3},
	} {
		for _, behind := range []int{0, 30} {
			x := bitsOfText(c.text)
			if !strings.Contains(c.name, "cut off") {
				x = joined(x, make(bitList, behind))
			}
			got, next, ok := impl.LensGet(x.bits(), 0, c.syms)
			wantNoRead(t, c.name, got, next, ok)
		}
	}
}

// Of all bits just those are read that some lengths are put as.
func TestLensGetOfAllBits(t *testing.T) {
	for syms := 1; syms <= 4; syms++ {
		type known struct {
			lens []int
			bits bitList
		}
		all := []known{}
		eachList(syms, upTo(4), func(l []int) {
			if slowLensOk(l) {
				all = append(all, known{l, slowLensBits(l)})
			}
		})
		for v := range 1 << 16 {
			l := listOf(v, 16)
			got, next, ok := impl.LensGet(l.bits(), 0, syms)
			at := slices.IndexFunc(all, func(k known) bool {
				return len(k.bits) <= len(l) && slices.Equal(k.bits, l[:len(k.bits)])
			})
			if at < 0 {
				wantNoRead(t, "LensGet", got, next, ok)
			} else {
				wantRead(t, "LensGet", got, next, ok, all[at].lens, len(all[at].bits))
			}
		}
	}
}

// readIsPut tells whether what is read as lengths are just the bits that are put for them.
func readIsPut(t *testing.T, l bitList, at int, syms int) bool {
	t.Helper()
	lens, next, ok := impl.LensGet(l.bits(), at, syms)
	if !ok {
		wantNoRead(t, "no lengths", lens, next, ok)
		return false
	}
	if len(lens) != syms || !impl.LensOk(lens) || next < at || next > len(l) {
		t.Fatalf("LensGet of %v: %v %d", l, lens, next)
	}
	x, fine := impl.LensPut(lens)
	wantBits(t, "LensPut of what was read", x, fine, l[at:next])
	return true
}

// Bits with some of them turned round are read as lengths seldom, and are theirs then.
func TestLensGetOfSpoiltBits(t *testing.T) {
	read := 0
	for _, lens := range someLens() {
		want := joined(slowLensBits(lens), mixed(30, 8))
		for i := range want {
			spoilt := slices.Clone(want)
			spoilt[i] = !spoilt[i]
			for _, syms := range []int{len(lens) - 1, len(lens), len(lens) + 1} {
				if readIsPut(t, spoilt, 0, syms) {
					read++
				}
			}
			if i > 3 {
				readIsPut(t, want, i, len(lens))
			}
		}
	}
	if read == 0 {
		t.Fatal("nothing was read at all")
	}
}

func TestLensGetRefuses(t *testing.T) {
	lens := []int{1, 0, 0, 0, 1}
	l := slowLensBits(lens)
	for name, wrong := range wrongBits() {
		got, next, ok := impl.LensGet(wrong, 0, 1)
		wantNoRead(t, name, got, next, ok)
	}
	for _, at := range []int{math.MinInt, -1, 1, len(l), len(l) + 1, math.MaxInt} {
		got, next, ok := impl.LensGet(l.bits(), at, 5)
		wantNoRead(t, fmt.Sprint("at ", at), got, next, ok)
	}
	full := joined(slowLensBits(listed([]int{1}, make([]int, impl.MaxSyms))), make(bitList, 800))
	for _, syms := range []int{math.MinInt, -1, 0, impl.MaxSyms + 1, math.MaxInt} {
		for _, x := range []impl.Bits{{}, l.bits(), full.bits()} {
			got, next, ok := impl.LensGet(x, 0, syms)
			wantNoRead(t, fmt.Sprint("syms ", syms), got, next, ok)
		}
	}
	most := listed([]int{1}, make([]int, impl.MaxSyms-1))
	want := slowLensBits(most)
	got, next, ok := impl.LensGet(want.bits(), 0, impl.MaxSyms)
	wantRead(t, "just MaxSyms", got, next, ok, most, len(want))
	got, next, ok = impl.LensGet(joined(bitList{true}, listOf(1, 4)).bits(), 1, 1)
	wantRead(t, "one symbol", got, next, ok, []int{1}, 5)
	end := joined(mixed(impl.MaxBits-len(l), 9), l)
	got, next, ok = impl.LensGet(end.bits(), impl.MaxBits-len(l), 5)
	wantRead(t, "at the end of MaxBits", got, next, ok, lens, impl.MaxBits)
}

// keepsListApart calls do with a list that has spare room, and tells where this or the answer is changed through the other.
func keepsListApart(t *testing.T, name string, list []int, do func(l []int) []int) {
	t.Helper()
	room := listed(list, alike(len(list)+40, 1))
	before := slices.Clone(room)
	answer := do(room[:len(list)])
	if !slices.Equal(room, before) {
		t.Fatalf("%s of %v writes into its argument or behind it", name, list)
	}
	told := slices.Clone(answer)
	for i := range room {
		room[i] += 1000
	}
	if !slices.Equal(answer, told) {
		t.Fatalf("%s of %v: the answer changes with the argument", name, list)
	}
	spoiled := slices.Clone(room)
	answer = answer[:cap(answer)]
	for i := range answer {
		answer[i] -= 1000
	}
	if !slices.Equal(room, spoiled) {
		t.Fatalf("%s of %v: the argument changes with the answer", name, list)
	}
}

func TestHuffArgumentsStay(t *testing.T) {
	for _, lens := range rightLens() {
		text := spoken(lens, 40, 3)
		counts, _ := impl.Counts(text, len(lens))
		x, _ := impl.HuffPut(lens, text)
		put, _ := impl.LensPut(lens)
		keepsListApart(t, "CountsOk", counts, func(l []int) []int { impl.CountsOk(l); return nil })
		keepsListApart(t, "Counts", text, func(l []int) []int { c, _ := impl.Counts(l, len(lens)); return c })
		keepsListApart(t, "LensOk", lens, func(l []int) []int { impl.LensOk(l); return nil })
		keepsListApart(t, "Lens", counts, func(l []int) []int { got, _ := impl.Lens(l, impl.MaxLen); return got })
		keepsListApart(t, "Cost", counts, func(l []int) []int { impl.Cost(l, lens); return nil })
		keepsListApart(t, "Cost", lens, func(l []int) []int { impl.Cost(counts, l); return nil })
		keepsListApart(t, "Codes", lens, func(l []int) []int { c, _ := impl.Codes(l); return c })
		keepsListApart(t, "HuffPut", lens, func(l []int) []int { impl.HuffPut(l, text); return nil })
		keepsListApart(t, "HuffPut", text, func(l []int) []int { impl.HuffPut(lens, l); return nil })
		keepsListApart(t, "HuffGet", lens, func(l []int) []int { got, _, _ := impl.HuffGet(l, x, 0, 40); return got })
		keepsListApart(t, "LensPut", lens, func(l []int) []int { impl.LensPut(l); return nil })
		for _, l := range []bitList{textBits(x), textBits(put)} {
			keepsApart(t, "HuffGet", l, func(y impl.Bits) []byte { impl.HuffGet(lens, y, 0, 40); return nil })
			keepsApart(t, "LensGet", l, func(y impl.Bits) []byte { impl.LensGet(y, 0, len(lens)); return nil })
		}
	}
}

func textBits(x impl.Bits) bitList {
	l := bitList{}
	for i := range x.N {
		l = append(l, x.B[i/8]>>(i%8)&1 == 1)
	}
	return l
}

// Nothing is kept: answers of one call are not those of another one.
func TestHuffKeepsNothing(t *testing.T) {
	first, _ := impl.Lens([]int{1, 1, 1}, 2)
	codes, _ := impl.Codes(first)
	for i := range first {
		first[i] = 9
	}
	second, ok := impl.Lens([]int{1, 1, 1}, 2)
	wantList(t, "Lens again", second, ok, []int{2, 2, 1})
	for i := range codes {
		codes[i] = 9
	}
	codes, ok = impl.Codes(second)
	wantList(t, "Codes again", codes, ok, []int{2, 3, 0})
}
