package impl

import (
	"errors"
	"math/bits"
)

const MaxBits = 4096

// maxWidth is the most bits that are put or got at once.
const maxWidth = 30

var errOver = errors.New("the stream is over")
var errFull = errors.New("the stream has no more room")
var errRange = errors.New("the stream takes no such width or number")

type Bits struct {
	B []byte
	N int
}

// bitReader goes through bits that it never writes to, so that they may be an argument's own.
type bitReader struct {
	from Bits
	at   int
}

// bitWriter puts bits behind its own copy of others, at most room of them.
type bitWriter struct {
	to   Bits
	room int
}

func newBitWriter(x Bits, room int) *bitWriter {
	b := make([]byte, len(x.B))
	copy(b, x.B)
	return &bitWriter{to: Bits{B: b, N: x.N}, room: room}
}

func bytesFor(n int) int {
	return (n + 7) / 8
}

func widthOk(width int) bool {
	return width >= 0 && width <= maxWidth
}

func (r *bitReader) number(at int, width int) int {
	n := 0
	for i := range width {
		place := at + i
		bit := int(r.from.B[place/8]>>(place%8)) & 1
		n |= bit << i
	}
	return n
}

// get holds the width against what is left: a sum might pass the greatest int.
func (r *bitReader) get(width int) (int, error) {
	if !widthOk(width) {
		return 0, errRange
	}
	if r.at < 0 || width > r.from.N-r.at {
		return 0, errOver
	}
	n := r.number(r.at, width)
	r.at += width
	return n, nil
}

func (r *bitReader) back(width int) (int, error) {
	if !widthOk(width) {
		return 0, errRange
	}
	if r.at > r.from.N || r.at < width {
		return 0, errOver
	}
	r.at -= width
	return r.number(r.at, width), nil
}

func (r *bitReader) left() int {
	return r.from.N - r.at
}

// some gets as many bits as there are, up to maxWidth, and tells how many these are.
func (r *bitReader) some() (int, int, error) {
	width := min(r.left(), maxWidth)
	if width <= 0 {
		return 0, 0, errOver
	}
	n, err := r.get(width)
	return n, width, err
}

func (w *bitWriter) put(n int, width int) error {
	if !widthOk(width) || n < 0 || n >= 1<<width {
		return errRange
	}
	if width > w.room-w.to.N {
		return errFull
	}
	for left := width; left > 0; {
		used := w.to.N % 8
		if used == 0 {
			w.to.B = append(w.to.B, 0)
		}
		w.to.B[len(w.to.B)-1] |= byte(n << used)
		step := min(8-used, left)
		n >>= step
		left -= step
		w.to.N += step
	}
	return nil
}

// pour puts all that r has left: that r is over is what it waits for.
func (w *bitWriter) pour(r *bitReader) error {
	for {
		n, width, err := r.some()
		if errors.Is(err, errOver) {
			return nil
		}
		if err != nil {
			return err
		}
		if err = w.put(n, width); err != nil {
			return err
		}
	}
}

// take gets n bits as bits of their own.
func (r *bitReader) take(n int) (Bits, error) {
	if n < 0 || n > r.left() {
		return Bits{}, errOver
	}
	w := newBitWriter(Bits{}, MaxBits)
	part := &bitReader{from: Bits{B: r.from.B, N: r.at + n}, at: r.at}
	if err := w.pour(part); err != nil {
		return Bits{}, err
	}
	r.at += n
	return w.to, nil
}

func BitsOk(x Bits) bool {
	if x.N < 0 || x.N > MaxBits || len(x.B) != bytesFor(x.N) {
		return false
	}
	used := x.N % 8
	return used == 0 || x.B[len(x.B)-1]>>used == 0
}

func BitsPut(x Bits, n int, width int) (Bits, bool) {
	if !BitsOk(x) {
		return Bits{}, false
	}
	w := newBitWriter(x, MaxBits)
	if err := w.put(n, width); err != nil {
		return Bits{}, false
	}
	return w.to, true
}

func BitsGet(x Bits, at int, width int) (int, int) {
	if !BitsOk(x) {
		return 0, -1
	}
	r := &bitReader{from: x, at: at}
	n, err := r.get(width)
	if err != nil {
		return 0, -1
	}
	return n, r.at
}

func BackGet(x Bits, end int, width int) (int, int) {
	if !BitsOk(x) {
		return 0, -1
	}
	r := &bitReader{from: x, at: end}
	n, err := r.back(width)
	if err != nil {
		return 0, -1
	}
	return n, r.at
}

func BitsJoin(a Bits, b Bits) (Bits, bool) {
	if !BitsOk(a) || !BitsOk(b) {
		return Bits{}, false
	}
	w := newBitWriter(a, MaxBits)
	if err := w.pour(&bitReader{from: b}); err != nil {
		return Bits{}, false
	}
	return w.to, true
}

// BitsSeal has room for one bit more: MaxBits bits are sealed, too.
func BitsSeal(x Bits) ([]byte, bool) {
	if !BitsOk(x) {
		return nil, false
	}
	w := newBitWriter(x, MaxBits+1)
	if err := w.put(1, 1); err != nil {
		return nil, false
	}
	return w.to.B, true
}

func BitsOpen(b []byte) (Bits, bool) {
	last := len(b) - 1
	if last < 0 || last > bytesFor(MaxBits) || b[last] == 0 {
		return Bits{}, false
	}
	n := 8*last + bits.Len8(b[last]) - 1
	if n > MaxBits {
		return Bits{}, false
	}
	x := Bits{B: make([]byte, bytesFor(n)), N: n}
	copy(x.B, b)
	if used := n % 8; used != 0 {
		x.B[last] &^= 1 << used
	}
	return x, true
}
