// Package bits is layer 1: see shared/doc/01-bits.md.
package bits

// Writer writes bits behind one another.
type Writer struct {
	bytes []byte // the last one is filled up with zeros
	count int
}

// Put: the lowest n bits of v, the highest of them first.
func (w *Writer) Put(v uint64, n int) {
	if w == nil {
		return
	}
	for left := bounded(n); left > 0; {
		used := w.count % 8
		if used == 0 {
			w.bytes = append(w.bytes, 0)
		}
		size := min(8-used, left)
		left -= size
		w.bytes[len(w.bytes)-1] |= byte(lowest(v>>left, size) << (8 - used - size))
		w.count += size
	}
}

// Len: how many bits were written.
func (w *Writer) Len() int {
	if w == nil {
		return 0
	}
	return w.count
}

// Bytes: what was written, filled up with zeros.
func (w *Writer) Bytes() string {
	if w == nil {
		return ""
	}
	return string(w.bytes)
}

// Reader reads bits.
type Reader struct {
	text string
	at   int // the number of bits that were consumed
}

// Open: a reader of these bytes.
func Open(s string) *Reader { return &Reader{text: s} }

// Take: the next n bits.
func (r *Reader) Take(n int) (uint64, bool) {
	left := bounded(n)
	if left > r.Left() {
		return 0, false
	}
	var v uint64
	for left > 0 {
		used := r.at % 8
		size := min(8-used, left)
		field := uint64(r.text[r.at/8]) >> (8 - used - size)
		v = v<<size | lowest(field, size)
		r.at += size
		left -= size
	}
	return v, true
}

// Left: how many bits are left.
func (r *Reader) Left() int {
	if r == nil {
		return 0
	}
	return 8*len(r.text) - r.at
}

// bounded is the count of bits that n stands for.
func bounded(n int) int { return min(max(n, 0), 64) }

// lowest keeps the n lowest bits of v; n is at most 8 here.
func lowest(v uint64, n int) uint64 { return v & (1<<n - 1) }
