package bits_test

import (
	"math"
	"strconv"
	"strings"
	"testing"

	"almanac/bits"
)

// counts are bit counts within the range, at its edges and far out of it.
var counts = []int{math.MinInt, math.MinInt + 1, -65, -64, -8, -1, 0, 1, 2, 3, 7, 8, 9, 15, 16, 17,
	31, 32, 33, 56, 57, 62, 63, 64, 65, 72, 128, 256, 1 << 32, math.MaxInt - 1, math.MaxInt}

var values = []uint64{0, 1, 2, 5, 0x80, 0xff, 0x100, 0x0123456789abcdef, 0xfedcba9876543210,
	0x5555555555555555, 0xaaaaaaaaaaaaaaaa, 1 << 63, 1<<63 - 1, math.MaxUint64 - 1, math.MaxUint64}

// The model of the tests is a text of the digits 0 and 1.

func effective(n int) int {
	switch {
	case n < 0:
		return 0
	case n > 64:
		return 64
	}
	return n
}

func digitsOf(v uint64, n int) string {
	all := strconv.FormatUint(v, 2)
	all = strings.Repeat("0", 64-len(all)) + all
	return all[64-effective(n):]
}

func bytesOf(digits string) string {
	var b strings.Builder
	for len(digits)%8 != 0 {
		digits += "0"
	}
	for ; digits != ""; digits = digits[8:] {
		v, _ := strconv.ParseUint(digits[:8], 2, 8)
		b.WriteByte(byte(v))
	}
	return b.String()
}

func numberOf(digits string) uint64 {
	v, _ := strconv.ParseUint("0"+digits, 2, 64)
	return v
}

// A sequence is a row of numbers that look mixed and are the same in every run.
type sequence uint64

func (s *sequence) next() uint64 {
	*s ^= *s << 13
	*s ^= *s >> 7
	*s ^= *s << 17
	return uint64(*s)
}

func checkWritten(t *testing.T, w *bits.Writer, digits, what string) {
	t.Helper()
	if got := w.Len(); got != len(digits) {
		t.Fatalf("%s: Len is %d, not %d", what, got, len(digits))
	}
	if got, want := w.Bytes(), bytesOf(digits); got != want {
		t.Fatalf("%s: Bytes is %q, not %q", what, got, want)
	}
}

func checkTake(t *testing.T, r *bits.Reader, n int, want uint64, ok bool, left int) {
	t.Helper()
	v, got := r.Take(n)
	if v != want || got != ok {
		t.Fatalf("Take(%d) is %d, %v, not %d, %v", n, v, got, want, ok)
	}
	if r.Left() != left {
		t.Fatalf("Left behind Take(%d) is %d, not %d", n, r.Left(), left)
	}
}

func TestZeroWriterIsEmpty(t *testing.T) { // P1.1, P1.2
	var w bits.Writer
	checkWritten(t, &w, "", "zero")
	w.Put(math.MaxUint64, 0)
	checkWritten(t, &w, "", "zero behind a Put of no bits")
}

func TestPutExample(t *testing.T) { // P1.1, P1.2
	var w bits.Writer
	w.Put(5, 3)
	w.Put(255, 2)
	if w.Len() != 5 || w.Bytes() != "\xb8" {
		t.Errorf("%d, %q", w.Len(), w.Bytes())
	}
}

func TestPutHighestBitFirst(t *testing.T) { // P1.1
	for _, c := range []struct {
		v    uint64
		n    int
		want string
	}{
		{1, 1, "\x80"}, {1, 2, "\x40"}, {1, 8, "\x01"}, {1, 9, "\x00\x80"}, {6, 3, "\xc0"},
		{0xabc, 12, "\xab\xc0"}, {0x1234, 16, "\x12\x34"},
		{1 << 63, 63, "\x00\x00\x00\x00\x00\x00\x00\x00"},
		{1<<62 | 1, 63, "\x80\x00\x00\x00\x00\x00\x00\x02"},
		{1<<63 | 1, 64, "\x80\x00\x00\x00\x00\x00\x00\x01"},
		{0x0123456789abcdef, math.MaxInt, "\x01\x23\x45\x67\x89\xab\xcd\xef"},
		{math.MaxUint64, math.MinInt, ""},
	} {
		var w bits.Writer
		w.Put(c.v, c.n)
		if w.Bytes() != c.want || w.Len() != effective(c.n) {
			t.Errorf("Put(%x, %d): %d bits, %q", c.v, c.n, w.Len(), w.Bytes())
		}
	}
}

func TestPutAtEveryPlaceInAByte(t *testing.T) { // P1.1
	for offset := range 17 {
		for _, n := range counts {
			for _, v := range values {
				var w bits.Writer
				digits := digitsOf(0x15a5a, offset)
				w.Put(0x15a5a, offset)
				w.Put(v, n)
				digits += digitsOf(v, n)
				what := "behind " + strconv.Itoa(offset) + " bits, " + strconv.FormatUint(v, 16) + ", " + strconv.Itoa(n)
				checkWritten(t, &w, digits, what)
				w.Put(2, 2)
				checkWritten(t, &w, digits+"10", what+", and two more")
			}
		}
	}
}

func TestPutIgnoresOtherBits(t *testing.T) { // P1.1
	for n := range 64 {
		others := uint64(math.MaxUint64) << n
		for _, v := range values {
			var clear, set bits.Writer
			for range 2 {
				clear.Put(v&^others, n)
				set.Put(v|others, n)
			}
			digits := digitsOf(v, n)
			checkWritten(t, &clear, digits+digits, "without other bits")
			checkWritten(t, &set, digits+digits, "with other bits")
		}
	}
}

func TestBytesFillsTheLastByte(t *testing.T) { // P1.2
	var w bits.Writer
	for n, want := range []string{"", "\x80", "\xc0", "\xe0", "\xf0", "\xf8", "\xfc", "\xfe", "\xff",
		"\xff\x80", "\xff\xc0"} {
		if w.Bytes() != want || w.Bytes() != want {
			t.Errorf("%d ones: %q, not %q", n, w.Bytes(), want)
		}
		w.Put(1, 1)
	}
}

func TestWritingContinuesAfterBytes(t *testing.T) { // P1.2
	var w bits.Writer
	w.Put(5, 3)
	first := w.Bytes()
	w.Put(31, 5)
	second := w.Bytes()
	w.Put(0xff00, 16)
	w.Put(1, 1)
	if first != "\xa0" || second != "\xbf" || w.Bytes() != "\xbf\xff\x00\x80" {
		t.Errorf("%q, %q, %q", first, second, w.Bytes())
	}
}

func TestManyPuts(t *testing.T) { // P1.1, P1.2
	var w bits.Writer
	var digits string
	mixed := sequence(88172645463325252)
	for range 600 {
		v, n := mixed.next(), int(mixed.next()%70)-3
		w.Put(v, n)
		digits += digitsOf(v, n)
		checkWritten(t, &w, digits, "many")
	}
}

func TestTakeExample(t *testing.T) { // P1.3
	r := bits.Open("\xb8")
	if r.Left() != 8 {
		t.Errorf("Left is %d", r.Left())
	}
	checkTake(t, r, 3, 5, true, 5)
	checkTake(t, r, 6, 0, false, 5)
	checkTake(t, r, 5, 24, true, 0)
}

func TestTakeInPiecesOfEveryCount(t *testing.T) { // P1.3
	const text = "\x80\x01\x00\xff\xfe\x7f\xa5\x5a\x0f\xf0\x12\x34\x56\x78\x9a\xbc\xde\xff\x00\x00\x01"
	var digits string
	for i := range len(text) {
		digits += digitsOf(uint64(text[i]), 8)
	}
	for first := range 65 {
		for n := 1; n <= 64; n++ {
			r := bits.Open(text)
			rest := digits[first:]
			checkTake(t, r, first, numberOf(digits[:first]), true, len(rest))
			for ; len(rest) >= n; rest = rest[n:] {
				checkTake(t, r, n, numberOf(rest[:n]), true, len(rest)-n)
			}
			checkTake(t, r, n, 0, false, len(rest))
			checkTake(t, r, len(rest), numberOf(rest), true, 0)
		}
	}
}

func TestTakeOfTooManyConsumesNothing(t *testing.T) { // P1.3
	const text = "\xff\xff\xff\xff\xff\xff\xff\xff"
	for left := range 64 {
		r := bits.Open(text)
		checkTake(t, r, 64-left, math.MaxUint64>>left, true, left)
		for _, n := range []int{left + 1, 64, 65, math.MaxInt} {
			checkTake(t, r, n, 0, false, left)
		}
		checkTake(t, r, left, uint64(1)<<left-1, true, 0)
	}
}

func TestTakeOutOfRangeCounts(t *testing.T) { // P1.3
	const text = "\x01\x23\x45\x67\x89\xab\xcd\xef\x10"
	for _, n := range []int{64, 65, 1000, math.MaxInt} {
		r := bits.Open(text)
		checkTake(t, r, n, 0x0123456789abcdef, true, 8)
		checkTake(t, r, n, 0, false, 8)
	}
	for _, n := range []int{0, -1, -64, math.MinInt} {
		r := bits.Open(text)
		checkTake(t, r, n, 0, true, 72)
		checkTake(t, r, 4, 0, true, 68)
		checkTake(t, r, n, 0, true, 68)
		checkTake(t, r, 64, 0x123456789abcdef1, true, 4)
		checkTake(t, r, 4, 0, true, 0)
		checkTake(t, r, n, 0, true, 0)
	}
}

func TestEmptyReaders(t *testing.T) { // P1.3
	for _, r := range []*bits.Reader{bits.Open(""), {}} {
		if r == nil {
			t.Fatal("Open returned nil")
		}
		if r.Left() != 0 {
			t.Errorf("Left is %d", r.Left())
		}
		checkTake(t, r, 1, 0, false, 0)
		checkTake(t, r, math.MaxInt, 0, false, 0)
		checkTake(t, r, 0, 0, true, 0)
		checkTake(t, r, math.MinInt, 0, true, 0)
	}
}

func TestReadBackWhatWasWritten(t *testing.T) { // P1.1 to P1.3
	mixed := sequence(2463534242)
	var w bits.Writer
	var sizes []int
	var fields []uint64
	for range 2000 {
		v, n := mixed.next(), int(mixed.next()%65)
		w.Put(v, n)
		sizes = append(sizes, n)
		fields = append(fields, numberOf(digitsOf(v, n)))
	}
	r := bits.Open(w.Bytes())
	left := 8 * len(w.Bytes())
	for i, n := range sizes {
		left -= n
		checkTake(t, r, n, fields[i], true, left)
	}
	checkTake(t, r, left, 0, true, 0)
}

func TestNilWriter(t *testing.T) { // P1.4
	var w *bits.Writer
	for _, n := range counts {
		w.Put(math.MaxUint64, n)
		if w.Len() != 0 || w.Bytes() != "" {
			t.Errorf("behind Put of %d bits: %d, %q", n, w.Len(), w.Bytes())
		}
	}
}

func TestNilReader(t *testing.T) { // P1.4
	var r *bits.Reader
	if r.Left() != 0 {
		t.Errorf("Left is %d", r.Left())
	}
	for _, n := range counts {
		checkTake(t, r, n, 0, n <= 0, 0)
	}
}

func TestCallsEndForAllCounts(t *testing.T) { // P1
	for _, first := range counts {
		for _, second := range counts {
			var w bits.Writer
			w.Put(math.MaxUint64, first)
			w.Put(math.MaxUint64, second)
			r := bits.Open(w.Bytes())
			for _, n := range []int{first, second, first, second} {
				before := r.Left()
				_, ok := r.Take(n)
				if fits := effective(n) <= before; ok != fits {
					t.Fatalf("Take(%d) of %d bits is %v", n, before, ok)
				}
			}
		}
	}
}

func TestWritersAreIndependent(t *testing.T) { // P2
	var a, b bits.Writer
	a.Put(5, 3)
	b.Put(0, 4)
	a.Put(0, 2)
	b.Put(15, 4)
	checkWritten(t, &a, "10100", "a")
	checkWritten(t, &b, "00001111", "b")
}

func TestReadersAreIndependent(t *testing.T) { // P2
	const text = "\xf0\x0f"
	a, b := bits.Open(text), bits.Open(text)
	checkTake(t, a, 6, 0x3c, true, 10)
	checkTake(t, b, 4, 0xf, true, 12)
	checkTake(t, a, 10, 0xf, true, 0)
	checkTake(t, b, 12, 0xf, true, 0)
}
