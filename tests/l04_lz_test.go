package tests

import (
	"bytes"
	"fmt"
	"math"
	"slices"
	"strings"
	"testing"

	"loop.example/g00528/impl"
)

// slowAlike tells how many bytes from at on are those that begin d ahead.
func slowAlike(b []byte, at int, d int) int {
	n := 0
	for at+n+1 <= len(b) && bytes.Equal(b[at:at+n+1], b[at-d:at-d+n+1]) {
		n++
	}
	return n
}

func slowLongest(b []byte, at int) (int, int) {
	n, dist := 2, 0
	for d := 1; d <= at; d++ {
		if m := slowAlike(b, at, d); m > n {
			n, dist = m, d
		}
	}
	if dist == 0 {
		return 0, 0
	}
	return n, dist
}

func slowFind(b []byte) []impl.Seq {
	l := []impl.Seq{}
	lits := []byte{}
	for at := 0; at < len(b); {
		n, d := slowLongest(b, at)
		next := 0
		if at+1 < len(b) {
			next, _ = slowLongest(b, at+1)
		}
		if n > 0 && next <= n {
			l = append(l, impl.Seq{Lits: lits, Len: n, Dist: d})
			lits = []byte{}
			at += n
		} else {
			lits = append(lits, b[at])
			at++
		}
	}
	if len(lits) > 0 {
		l = append(l, impl.Seq{Lits: lits})
	}
	return l
}

// slowExec makes the bytes one by one, and gives up where there is a reason to.
func slowExec(l []impl.Seq) ([]byte, bool) {
	b := []byte{}
	for i, s := range l {
		for _, v := range s.Lits {
			b = append(b, v)
			if len(b) > 64 {
				return nil, false
			}
		}
		if s.Len == 0 && s.Dist == 0 && i+1 == len(l) && len(s.Lits) > 0 {
			continue
		}
		if s.Len < 3 || s.Dist < 1 || s.Dist > len(b) {
			return nil, false
		}
		for n := 0; n < s.Len; n++ {
			b = append(b, b[len(b)-s.Dist])
			if len(b) > 64 {
				return nil, false
			}
		}
	}
	return b, len(l) <= 40
}

func joinedLits(l []impl.Seq) []byte {
	b := []byte{}
	for _, s := range l {
		b = append(b, s.Lits...)
	}
	return b
}

func sameSeqs(a []impl.Seq, b []impl.Seq) bool {
	return slices.EqualFunc(a, b, func(x impl.Seq, y impl.Seq) bool {
		return bytes.Equal(x.Lits, y.Lits) && x.Len == y.Len && x.Dist == y.Dist
	})
}

func clonedSeqs(l []impl.Seq) []impl.Seq {
	c := slices.Clone(l)
	for i := range c {
		c[i].Lits = bytes.Clone(c[i].Lits)
	}
	return c
}

// seq has its letters as a text.
func seq(lits string, size int, dist int) impl.Seq {
	return impl.Seq{Lits: []byte(lits), Len: size, Dist: dist}
}

// pieces are n that follow one letter, each the shortest one.
func pieces(n int) []impl.Seq {
	l := slices.Repeat([]impl.Seq{seq("", 3, 1)}, n)
	l[0].Lits = []byte("a")
	return l
}

func bytesOf(l []int, first byte) []byte {
	b := make([]byte, len(l))
	for i, v := range l {
		b[i] = first + byte(v)
	}
	return b
}

// apart has n bytes of which no two are alike.
func apart(n int) []byte {
	return bytesOf(upTo(n-1), 32)
}

// someTexts are all short ones over few letters, and longer ones that have more or fewer pieces, up to BlockBytes.
func someTexts() [][]byte {
	all := [][]byte{nil, {}, apart(impl.BlockBytes), bytes.Repeat([]byte{0}, impl.BlockBytes), bytes.Repeat([]byte{255}, impl.BlockBytes)}
	for n := range 12 {
		eachList(n, upTo(1), func(l []int) { all = append(all, bytesOf(l, 'a')) })
	}
	for n := range 8 {
		eachList(n, upTo(2), func(l []int) { all = append(all, bytesOf(l, 254)) })
	}
	for top := 1; top <= 7; top++ {
		for size := 1; size <= impl.BlockBytes; size += 3 {
			for seed := range uint64(6) {
				all = append(all, bytesOf(picked(size, top, 100*uint64(size)+seed), 'a'))
			}
		}
	}
	for period := 1; period <= impl.BlockBytes; period++ {
		b := bytes.Repeat(apart(period), impl.BlockBytes)[:impl.BlockBytes]
		all = append(all, b)
		spoilt := bytes.Clone(b)
		spoilt[(period+40)%impl.BlockBytes] = '!'
		all = append(all, spoilt)
	}
	return all
}

func wantPiece(t *testing.T, b []byte, at int, wantN int, wantD int) {
	t.Helper()
	if n, d := impl.Longest(b, at); n != wantN || d != wantD {
		t.Fatalf("Longest of %q at %d: %d %d, want %d %d", b, at, n, d, wantN, wantD)
	}
}

func wantSeqs(t *testing.T, b []byte, want []impl.Seq) {
	t.Helper()
	l, ok := impl.Find(b)
	if !ok || !sameSeqs(l, want) {
		t.Fatalf("Find of %q: %v %v, want %v true", b, l, ok, want)
	}
}

// wantMade asks for what comes of sequences, for its size, for all Lits, and for each piece twice.
func wantMade(t *testing.T, name string, l []impl.Seq, want []byte) {
	t.Helper()
	if !impl.SeqsOk(l) {
		t.Fatalf("%s: %v is refused", name, l)
	}
	b, ok := impl.Exec(l)
	if !ok || !bytes.Equal(b, want) {
		t.Fatalf("%s: Exec of %v: %q %v, want %q true", name, l, b, ok, want)
	}
	if n := impl.SeqBytes(l); n != len(want) {
		t.Fatalf("%s: SeqBytes of %v is %d, want %d", name, l, n, len(want))
	}
	if lits := impl.LitsOf(l); !bytes.Equal(lits, joinedLits(l)) {
		t.Fatalf("%s: LitsOf of %v is %q", name, l, lits)
	}
	pieceTwice(t, l, b)
}

func pieceTwice(t *testing.T, l []impl.Seq, b []byte) {
	t.Helper()
	at := 0
	for _, s := range l {
		if !bytes.Equal(b[at:at+len(s.Lits)], s.Lits) {
			t.Fatalf("%v: the letters %q are not at %d of %q", l, s.Lits, at, b)
		}
		at += len(s.Lits)
		for range s.Len {
			if b[at] != b[at-s.Dist] {
				t.Fatalf("%v: the byte %d of %q is not the one %d ahead", l, at, b, s.Dist)
			}
			at++
		}
	}
	if at != len(b) {
		t.Fatalf("%v: %d bytes, not %d", l, len(b), at)
	}
}

func wantNotMade(t *testing.T, name string, l []impl.Seq) {
	t.Helper()
	if impl.SeqsOk(l) {
		t.Fatalf("%s: accepted", name)
	}
	b, ok := impl.Exec(l)
	wantNoBytes(t, name, b, ok)
	if n := impl.SeqBytes(l); n != -1 {
		t.Fatalf("%s: SeqBytes is %d, want -1", name, n)
	}
	if lits := impl.LitsOf(l); len(lits) != 0 {
		t.Fatalf("%s: LitsOf is %q, want nothing", name, lits)
	}
}

// longestHolds holds what Longest tells against all the places ahead.
func longestHolds(t *testing.T, b []byte, at int) {
	t.Helper()
	n, d := impl.Longest(b, at)
	if n == 0 && d == 0 {
		for other := 1; other <= at; other++ {
			if m := slowAlike(b, at, other); m >= impl.MinMatch {
				t.Fatalf("Longest of %q at %d finds none, but %d are %d ahead", b, at, m, other)
			}
		}
		return
	}
	if n < impl.MinMatch || d < 1 || d > at || n > len(b)-at || !bytes.Equal(b[at:at+n], b[at-d:at-d+n]) {
		t.Fatalf("Longest of %q at %d: %d %d is no piece", b, at, n, d)
	}
	if at+n < len(b) && b[at+n] == b[at-d+n] {
		t.Fatalf("Longest of %q at %d: %d %d, but one more is there", b, at, n, d)
	}
	for other := 1; other <= at; other++ {
		m := slowAlike(b, at, other)
		if m > n || m == n && other < d {
			t.Fatalf("Longest of %q at %d: %d %d, but %d are %d ahead", b, at, n, d, m, other)
		}
	}
}

func TestLongestIsTheLongestAndTheNearest(t *testing.T) {
	found, none := 0, 0
	for _, b := range someTexts() {
		for at := range b {
			longestHolds(t, b, at)
			n, d := slowLongest(b, at)
			wantPiece(t, b, at, n, d)
			if n > 0 {
				found++
			} else {
				none++
			}
		}
	}
	if found == 0 || none == 0 {
		t.Fatal("texts of one kind alone:", found, none)
	}
}

func TestFoundMakesTheTextAgain(t *testing.T) {
	for _, b := range someTexts() {
		l, ok := impl.Find(b)
		if !ok {
			t.Fatalf("Find of %q is refused", b)
		}
		wantMade(t, "what is found", l, b)
		wantSeqs(t, b, slowFind(b))
	}
}

func TestLongestByHand(t *testing.T) {
	for _, c := range []struct {
		text string
		at   int
		n    int
		d    int
	}{
		{"abcabcabx", 3, 5, 3},
		{"abcabcabx", 4, 4, 3},
		{"abcabcabx", 6, 0, 0},
		{"abcabc", 3, 3, 3},
		{"ababab", 2, 4, 2},
		{"abxab", 3, 0, 0},
		{"aaaa", 1, 3, 1},
		{"aaaa", 2, 0, 0},
		{"aaa", 1, 0, 0},
		{"aaaaaaaa", 1, 7, 1},
		{"aaaaaaaa", 4, 4, 1},
		{"aaaaaaaa", 5, 3, 1},
		{"aaaaaaaa", 6, 0, 0},
		{"abc1abc2abc3", 8, 3, 4},
		{"abc1abc2abc1", 8, 4, 8},
		{"abc1abc2abc2", 8, 4, 4},
		{"abcd-abce-abcd", 10, 4, 10},
		{"abcd-abcd-abce-abcd", 15, 4, 10},
		{"abcd-abcd-abcd", 10, 4, 5},
		{"abcd-abcd-abcd", 5, 9, 5},
		{"abcabcXabcabc", 7, 6, 7},
		{"abcabcXabcabc", 10, 3, 3},
	} {
		wantPiece(t, []byte(c.text), c.at, c.n, c.d)
		longestHolds(t, []byte(c.text), c.at)
	}
}

// Letters that are alike in part alone are no piece: all three of them count.
func TestLettersThatAreAlikeInPart(t *testing.T) {
	b := []byte{1, 2, 1, 3, 9}
	wantPiece(t, b, 2, 0, 0)
	wantSeqs(t, b, []impl.Seq{{Lits: b}})
	eachList(6, []int{0, 1, 2}, func(l []int) {
		text := bytesOf(l, 0)
		for at := range text {
			longestHolds(t, text, at)
		}
		wantSeqs(t, text, slowFind(text))
	})
}

func TestLongestAtTheEdges(t *testing.T) {
	most := bytes.Repeat([]byte("a"), impl.BlockBytes)
	wantPiece(t, most, 0, 0, 0)
	wantPiece(t, most, 1, impl.BlockBytes-1, 1)
	wantPiece(t, most, impl.BlockBytes-3, 3, 1)
	wantPiece(t, most, impl.BlockBytes-2, 0, 0)
	wantPiece(t, most, impl.BlockBytes-1, 0, 0)
	half := bytes.Repeat(apart(impl.BlockBytes/2), 2)
	wantPiece(t, half, impl.BlockBytes/2, impl.BlockBytes/2, impl.BlockBytes/2)
	ends := slices.Concat(apart(impl.BlockBytes-3), apart(3))
	wantPiece(t, ends, impl.BlockBytes-3, 3, impl.BlockBytes-3)
	for _, size := range []int{0, 1, 2, 3, 4, 30, impl.BlockBytes} {
		for _, at := range []int{math.MinInt, -2, -1, size, size + 1, math.MaxInt} {
			wantPiece(t, most[:size], at, 0, 0)
		}
		if size > 0 {
			wantPiece(t, most[:size], 0, 0, 0)
			wantPiece(t, most[:size], size-1, 0, 0)
		}
	}
	wantPiece(t, nil, 0, 0, 0)
	for _, size := range []int{impl.BlockBytes + 1, impl.BlockBytes + 2, 100000} {
		more := bytes.Repeat([]byte("a"), size)
		for _, at := range []int{-1, 0, 1, 5, impl.BlockBytes - 1, impl.BlockBytes, size - 4, size - 1, size} {
			wantPiece(t, more, at, 0, 0)
		}
	}
}

// Bytes behind the length are no part of a piece, and no place of one.
func TestPiecesEndWithTheList(t *testing.T) {
	room := []byte("abcdXabcdXabcd")
	wantPiece(t, room[:8], 5, 3, 5)
	wantPiece(t, room[:7], 5, 0, 0)
	wantPiece(t, room[:9], 5, 4, 5)
	wantSeqs(t, room[:8], []impl.Seq{seq("abcdX", 3, 5)})
	wantSeqs(t, room[:7], []impl.Seq{seq("abcdXab", 0, 0)})
	wantSeqs(t, room[:0], nil)
	made := []impl.Seq{seq("ab", 0, 0), seq("", 9, 0)}
	wantMade(t, "spare room", made[:1], []byte("ab"))
	short := []byte("abX")
	wantMade(t, "spare letters", []impl.Seq{{Lits: short[:2], Len: 4, Dist: 2}}, []byte("ababab"))
}

// At the next place is a piece that is longer, as long, or shorter than the one here.
func TestWhoWaitsForALetter(t *testing.T) {
	for _, c := range []struct {
		name string
		text string
		want []impl.Seq
	}{
		{"none there", "abc-abc", []impl.Seq{seq("abc-", 3, 4)}},
		{"shorter by one", "abcd-abcd", []impl.Seq{seq("abcd-", 4, 5)}},
		{"as long", "abc-bcd-abcd", []impl.Seq{seq("abc-bcd-", 3, 8), seq("d", 0, 0)}},
		{"longer by one", "abc-bcde-abcde", []impl.Seq{seq("abc-bcde-a", 4, 6)}},
		{"longer by two", "abc-bcdef-abcdef", []impl.Seq{seq("abc-bcdef-a", 5, 7)}},
		{"longer, and longer again", "abc-bcde-cdefg-abcdefg", []impl.Seq{seq("abc-bcde-", 3, 4), seq("fg-ab", 5, 8)}},
		{"longer, then as long", "abc-bcde-cdef-abcdef", []impl.Seq{seq("abc-bcde-", 3, 4), seq("f-a", 4, 11), seq("f", 0, 0)}},
		{"longer two places on alone", "abc-cdefgh-abcdefgh", []impl.Seq{seq("abc-cdefgh-", 3, 11), seq("", 5, 9)}},
		{"longer, but none here", "-bcde-abcde", []impl.Seq{seq("-bcde-a", 4, 6)}},
		{"longer, and a byte behind it", "abc-bcde-abcdeX", []impl.Seq{seq("abc-bcde-a", 4, 6), seq("X", 0, 0)}},
		{"as long, behind another piece", "abcdbcdeabcde", []impl.Seq{seq("abcd", 3, 3), seq("e", 4, 8), seq("e", 0, 0)}},
	} {
		b := []byte(c.text)
		wantSeqs(t, b, c.want)
		wantMade(t, c.name, c.want, b)
	}
}

func TestFindOfAlikeOnes(t *testing.T) {
	for _, c := range []struct {
		text string
		want []impl.Seq
	}{
		{"abc1abc2abc3", []impl.Seq{seq("abc1", 3, 4), seq("2", 3, 4), seq("3", 0, 0)}},
		{"abc1xyz2abc3abc", []impl.Seq{seq("abc1xyz2", 3, 8), seq("3", 3, 4)}},
		{"abcd1abcd2abce3abcd", []impl.Seq{seq("abcd1", 4, 5), seq("2", 3, 5), seq("e3", 4, 10)}},
		{"abcabc", []impl.Seq{seq("abc", 3, 3)}},
		{"abcabcabc", []impl.Seq{seq("abc", 6, 3)}},
		{"abcabcabcabcx", []impl.Seq{seq("abc", 9, 3), seq("x", 0, 0)}},
		{"abababab", []impl.Seq{seq("ab", 6, 2)}},
		{"ababa", []impl.Seq{seq("ab", 3, 2)}},
		{"abab", []impl.Seq{seq("abab", 0, 0)}},
		{"aaaa", []impl.Seq{seq("a", 3, 1)}},
		{"aaa", []impl.Seq{seq("aaa", 0, 0)}},
		{"aaaabbbb", []impl.Seq{seq("a", 3, 1), seq("b", 3, 1)}},
		{"aaaaabaaaa", []impl.Seq{seq("a", 4, 1), seq("b", 4, 5)}},
		{"abcabcxyzxyz", []impl.Seq{seq("abc", 3, 3), seq("xyz", 3, 3)}},
		{"abcxyzabcxyzxyz", []impl.Seq{seq("abcxyz", 6, 6), seq("", 3, 3)}},
		{"abcdefabcdef", []impl.Seq{seq("abcdef", 6, 6)}},
		{"abcxyzabc1xyz", []impl.Seq{seq("abcxyz", 3, 6), seq("1", 3, 7)}},
		{"abcdefgdefgabcd", []impl.Seq{seq("abcdefg", 4, 4), seq("", 4, 11)}},
	} {
		b := []byte(c.text)
		wantSeqs(t, b, c.want)
		wantMade(t, c.text, c.want, b)
	}
}

func TestFindAtTheEdges(t *testing.T) {
	wantSeqs(t, nil, nil)
	wantSeqs(t, []byte{}, nil)
	wantSeqs(t, []byte{0}, []impl.Seq{seq("\x00", 0, 0)})
	whole := apart(impl.BlockBytes)
	wantSeqs(t, whole, []impl.Seq{{Lits: whole}})
	one := bytes.Repeat([]byte{7}, impl.BlockBytes)
	wantSeqs(t, one, []impl.Seq{seq("\x07", impl.BlockBytes-1, 1)})
	half := bytes.Repeat(apart(impl.BlockBytes/2), 2)
	wantSeqs(t, half, []impl.Seq{{Lits: half[:impl.BlockBytes/2], Len: impl.BlockBytes / 2, Dist: impl.BlockBytes / 2}})
	ends := slices.Concat(apart(impl.BlockBytes-3), apart(3))
	wantSeqs(t, ends, []impl.Seq{{Lits: ends[:impl.BlockBytes-3], Len: 3, Dist: impl.BlockBytes - 3}})
	short := slices.Concat(apart(impl.BlockBytes-2), apart(2))
	wantSeqs(t, short, []impl.Seq{{Lits: short}})
	for _, size := range []int{impl.BlockBytes + 1, impl.BlockBytes + 2, 100000} {
		for _, b := range [][]byte{make([]byte, size), bytesOf(picked(size, 200, 1), 0)} {
			if l, ok := impl.Find(b); ok || len(l) != 0 {
				t.Fatalf("Find of %d bytes: %v %v, want nothing and false", size, l, ok)
			}
		}
	}
}

// wrongSeqs are not SeqsOk, each for one reason.
func wrongSeqs() map[string][]impl.Seq {
	long := strings.Repeat("a", impl.BlockBytes)
	return map[string][]impl.Seq{
		"a last one that has nothing":                 {seq("", 0, 0)},
		"a last one that has nothing, behind others":  {seq("abc", 3, 3), seq("", 0, 0)},
		"one without a piece that is not the last":    {seq("abc", 0, 0), seq("abc", 3, 3)},
		"two without a piece":                         {seq("abc", 0, 0), seq("abc", 0, 0)},
		"one that has nothing ahead":                  {seq("", 0, 0), seq("abc", 0, 0)},
		"a Dist without a piece":                      {seq("abc", 0, 1)},
		"a Dist below 0 without a piece":              {seq("abc", 0, -1)},
		"the greatest Dist without a piece":           {seq("abc", 0, math.MaxInt)},
		"Dist of 0":                                   {seq("abc", 3, 0)},
		"Dist of -1":                                  {seq("abc", 3, -1)},
		"the least Dist":                              {seq("abc", 3, math.MinInt)},
		"Dist of one more than there are":             {seq("abc", 3, 4)},
		"Dist of one more, behind others":             {seq("abc", 3, 3), seq("de", 3, 9)},
		"Dist that the piece itself would make":       {seq("abc", 5, 5)},
		"Dist that later letters would make":          {seq("abc", 3, 4), seq("d", 0, 0)},
		"the greatest Dist":                           {seq("abc", 3, math.MaxInt)},
		"a piece of nothing":                          {seq("", 3, 1)},
		"a piece of nothing, Dist 0":                  {seq("", 3, 0)},
		"Len of -1":                                   {seq("abc", -1, 3)},
		"Len of -1, Dist 0":                           {seq("abc", -1, 0)},
		"Len of -3":                                   {seq("abc", -3, 1)},
		"the least Len":                               {seq("abc", math.MinInt, 1)},
		"Len of 0, and a Dist":                        {seq("abc", 0, 3)},
		"Len of 1":                                    {seq("abc", 1, 3)},
		"Len of 1, Dist 0":                            {seq("abc", 1, 0)},
		"Len of MinMatch - 1":                         {seq("abc", impl.MinMatch-1, 3)},
		"Len of MinMatch - 1 ahead of others":         {seq("abc", impl.MinMatch-1, 3), seq("abc", 3, 3)},
		"Len of one more than BlockBytes":             {seq("a", impl.BlockBytes, 1)},
		"a sum of one more, by the last piece":        {seq("abc", 3, 3), seq("abc", impl.BlockBytes-8, 1)},
		"a sum of one more, by the last letter":       {seq("abc", impl.BlockBytes-3, 3), seq("a", 0, 0)},
		"a sum of one more, by a letter and a piece":  {seq("abc", impl.BlockBytes-6, 3), seq("a", 3, 1)},
		"one letter more than BlockBytes":             {seq(long+"a", 0, 0)},
		"one letter more than BlockBytes, and more":   {seq(long+"a", 3, 1)},
		"BlockBytes letters and a piece":              {seq(long, 3, 1)},
		"very many letters":                           {{Lits: make([]byte, 100000)}},
		"very many letters and a piece that is wrong": {{Lits: make([]byte, 100000), Len: -100000, Dist: 1}},
		"the greatest Len":                            {seq("abc", math.MaxInt, 1)},
		"the greatest Len ahead of others":            {seq("abc", math.MaxInt, 1), seq("abc", 3, 1)},
		"great Lens whose sum goes round":             {seq("abc", math.MaxInt, 1), seq("", math.MaxInt, 1), seq("", 5, 1)},
		"the greatest Len and Dist":                   {seq("abc", math.MaxInt, math.MaxInt)},
		"Len and Dist of 2^32 + 3":                    {seq("abc", 1<<32+3, 3)},
		"Dist of 2^32 + 3":                            {seq("abc", 3, 1<<32+3)},
		"one piece more than there is room for":       pieces(22),
		"MaxSeqs pieces":                              pieces(impl.MaxSeqs),
		"MaxSeqs + 1 pieces":                          pieces(impl.MaxSeqs + 1),
		"MaxSeqs that have nothing":                   make([]impl.Seq, impl.MaxSeqs),
		"MaxSeqs + 1 that have nothing":               make([]impl.Seq, impl.MaxSeqs+1),
		"MaxSeqs + 1 letters, each alone":             slices.Repeat([]impl.Seq{seq("a", 0, 0)}, impl.MaxSeqs+1),
		"very many":                                   make([]impl.Seq, 100000),
	}
}

// rightSeqs are SeqsOk, with what comes of them.
func rightSeqs() []struct {
	name string
	l    []impl.Seq
	want string
} {
	long := strings.Repeat("a", impl.BlockBytes)
	return []struct {
		name string
		l    []impl.Seq
		want string
	}{
		{"nil", nil, ""},
		{"no sequences", []impl.Seq{}, ""},
		{"a letter", []impl.Seq{seq("a", 0, 0)}, "a"},
		{"a letter and a piece", []impl.Seq{seq("a", 3, 1)}, "aaaa"},
		{"Len of MinMatch, Dist of all that there is", []impl.Seq{seq("abc", impl.MinMatch, 3)}, "abcabc"},
		{"Dist of 1", []impl.Seq{seq("abc", 3, 1)}, "abcccc"},
		{"Dist of 2", []impl.Seq{seq("abc", 5, 2)}, "abcbcbcb"},
		{"a last one without a piece", []impl.Seq{seq("abc", 4, 3), seq("x", 0, 0)}, "abcabcax"},
		{"one without Lits", []impl.Seq{seq("abc", 4, 3), seq("", 3, 7)}, "abcabcaabc"},
		{"Dist of all, behind others", []impl.Seq{seq("abc", 3, 3), seq("de", 8, 8)}, "abcabcdeabcabcde"},
		{"a piece that runs into itself", []impl.Seq{seq("xab", 7, 2), seq("y", 0, 0)}, "xababababay"},
		{"BlockBytes letters", []impl.Seq{seq(long, 0, 0)}, long},
		{"just BlockBytes by one piece", []impl.Seq{seq("a", impl.BlockBytes-1, 1)}, long},
		{"just BlockBytes by a letter", []impl.Seq{seq("a", impl.BlockBytes-2, 1), seq("a", 0, 0)}, long},
		{"just BlockBytes by the shortest piece", []impl.Seq{seq(long[:impl.BlockBytes-3], 3, impl.BlockBytes-3)}, long},
		{"the most pieces", pieces(21), long},
		{"the most pieces and letters", append(pieces(20), seq("aaa", 0, 0)), long},
		{"noughts", []impl.Seq{seq("\x00\xff", 4, 2)}, "\x00\xff\x00\xff\x00\xff"},
	}
}

func TestSequencesByHand(t *testing.T) {
	for _, c := range rightSeqs() {
		wantMade(t, c.name, c.l, []byte(c.want))
	}
}

func TestSequencesAreRefused(t *testing.T) {
	for name, l := range wrongSeqs() {
		wantNotMade(t, name, l)
	}
}

// eachSeqs calls do with all lists of n sequences out of those that have some letters, lengths and distances.
func eachSeqs(n int, lits []int, sizes []int, dists []int, do func(l []impl.Seq)) {
	kinds := []impl.Seq{}
	for _, many := range lits {
		for _, size := range sizes {
			for _, dist := range dists {
				kinds = append(kinds, impl.Seq{Lits: apart(many), Len: size, Dist: dist})
			}
		}
	}
	eachList(n, upTo(len(kinds)-1), func(numbers []int) {
		l := []impl.Seq{}
		for _, k := range numbers {
			l = append(l, kinds[k])
		}
		do(l)
	})
}

func TestSequencesOfAllKinds(t *testing.T) {
	made, refused := 0, 0
	hold := func(l []impl.Seq) {
		if want, ok := slowExec(l); ok {
			wantMade(t, "sequences", l, want)
			made++
		} else {
			wantNotMade(t, fmt.Sprint(l), l)
			refused++
		}
	}
	eachSeqs(1, upTo(66), []int{-1, 0, 1, 2, 3, 4, 61, 62, 63, 64, 65}, []int{-1, 0, 1, 2, 3, 4, 61, 62, 63, 64, 65}, hold)
	eachSeqs(2, []int{0, 1, 3, 30}, []int{-1, 0, 2, 3, 4, 33}, []int{-1, 0, 1, 4, 6, 7, 30, 31}, hold)
	eachSeqs(3, []int{0, 2, 29}, []int{0, 2, 3, 35}, []int{0, 1, 5, 6}, hold)
	if made == 0 || refused == 0 {
		t.Fatal("sequences of one kind alone:", made, refused)
	}
}

// What is found at all is made anew by some other sequences, too: these need not be Find's.
func TestSequencesThatFindWouldNotFind(t *testing.T) {
	b := []byte("abcabcabcabc")
	for _, l := range [][]impl.Seq{
		{{Lits: b}},
		{seq("abc", 3, 3), seq("", 6, 6)},
		{seq("abc", 3, 3), seq("", 3, 6), seq("", 3, 9)},
		{seq("abca", 8, 3)},
		{seq("abc", 4, 3), seq("bcabc", 0, 0)},
	} {
		wantMade(t, "others", l, b)
		found, ok := impl.Find(b)
		if !ok || sameSeqs(found, l) {
			t.Fatal("found:", found)
		}
	}
}

// roomySeqs have spare room behind each list of letters, and others behind the last one.
func roomySeqs(l []impl.Seq) []impl.Seq {
	room := slices.Concat(clonedSeqs(l), []impl.Seq{seq("wxyz", 7, 1), seq("w", 3, 1), seq("", -1, -1)})
	for i := range room {
		room[i].Lits, _ = fenced(room[i].Lits)
	}
	return room
}

// wholeSeqs show what lies behind the letters, too.
func wholeSeqs(room []impl.Seq) []impl.Seq {
	c := slices.Clone(room)
	for i := range c {
		c[i].Lits = c[i].Lits[:cap(c[i].Lits)]
	}
	return clonedSeqs(c)
}

func spoilSeqs(l []impl.Seq) {
	l = l[:cap(l)]
	for i := range l {
		spoil(l[i].Lits)
		l[i].Len += 1000
		l[i].Dist += 1000
	}
}

func keepsSeqsApart(t *testing.T, name string, l []impl.Seq, do func(l []impl.Seq) []byte) {
	t.Helper()
	room := roomySeqs(l)
	before := wholeSeqs(room)
	answer := do(room[:len(l)])
	if !sameSeqs(wholeSeqs(room), before) {
		t.Fatalf("%s of %v writes into its argument or behind it", name, l)
	}
	told := bytes.Clone(answer)
	spoilSeqs(room)
	if !bytes.Equal(answer, told) {
		t.Fatalf("%s of %v: the answer changes with the argument", name, l)
	}
	spoilt := wholeSeqs(room)
	spoil(answer)
	if !sameSeqs(wholeSeqs(room), spoilt) {
		t.Fatalf("%s of %v: the argument changes with the answer", name, l)
	}
}

func TestSequencesStay(t *testing.T) {
	hold := func(l []impl.Seq) {
		keepsSeqsApart(t, "SeqsOk", l, func(x []impl.Seq) []byte { impl.SeqsOk(x); return nil })
		keepsSeqsApart(t, "Exec", l, func(x []impl.Seq) []byte { b, _ := impl.Exec(x); return b })
		keepsSeqsApart(t, "SeqBytes", l, func(x []impl.Seq) []byte { impl.SeqBytes(x); return nil })
		keepsSeqsApart(t, "LitsOf", l, impl.LitsOf)
	}
	for _, c := range rightSeqs() {
		hold(c.l)
	}
	for _, l := range wrongSeqs() {
		hold(l)
	}
}

func TestTextsOfPiecesStay(t *testing.T) {
	for _, b := range someTexts() {
		text, room := fenced(b)
		before := bytes.Clone(room)
		if len(b) > 0 {
			impl.Longest(text, len(b)/2)
		}
		l, _ := impl.Find(text)
		if !bytes.Equal(room, before) {
			t.Fatalf("Longest or Find of %q writes into its argument or behind it", b)
		}
		want := slowFind(b)
		spoil(room)
		if !sameSeqs(l, want) {
			t.Fatalf("Find of %q: the answer changes with the argument", b)
		}
		spoilt := bytes.Clone(room)
		spoilSeqs(l)
		if !bytes.Equal(room, spoilt) {
			t.Fatalf("Find of %q: the argument changes with the answer", b)
		}
	}
}

// No two lists of letters that are found share memory, nor the room behind them.
func TestFoundLettersAreApart(t *testing.T) {
	for _, b := range someTexts() {
		l, _ := impl.Find(b)
		for i := range l {
			want := clonedSeqs(l)
			spoil(l[i].Lits)
			for j := range l {
				if j != i && !bytes.Equal(l[j].Lits, want[j].Lits) {
					t.Fatalf("Find of %q: letters %d change with letters %d", b, j, i)
				}
			}
		}
	}
}

// Nothing is kept: answers of one call are not those of another one.
func TestPiecesKeepNothing(t *testing.T) {
	b := []byte("abcdbcdeabcde")
	want := slowFind(b)
	l, _ := impl.Find(b)
	made, _ := impl.Exec(want)
	lits := impl.LitsOf(want)
	spoilSeqs(l)
	spoil(made)
	spoil(lits)
	wantPiece(t, []byte("xxxxxxxx"), 1, 7, 1)
	wantPiece(t, b, 8, 4, 8)
	wantSeqs(t, b, want)
	wantMade(t, "again", want, b)
}
