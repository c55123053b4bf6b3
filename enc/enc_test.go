package enc_test

import (
	"math"
	"math/big"
	"slices"
	"strings"
	"testing"

	"almanac/api"
	"almanac/enc"
)

// A sequence is a row of numbers that look mixed and are the same in every run.
type sequence uint64

func (s *sequence) next() uint64 {
	*s ^= *s << 13
	*s ^= *s >> 7
	*s ^= *s << 17
	return uint64(*s)
}

func (s *sequence) text(size int) string {
	all := make([]byte, size)
	for i := range all {
		all[i] = byte(s.next() >> 20)
	}
	return string(all)
}

// positions are at the edges of a text of this size, outside it and far outside it.
func positions(size int) []int {
	all := []int{math.MinInt, math.MinInt + 1, -size - 1, -size, -8, -5, -4, -1, math.MaxInt - 4, math.MaxInt - 1, math.MaxInt}
	for at := range size + 10 {
		all = append(all, at)
	}
	return all
}

// numbers are those at which the count of digits changes, their neighbours, and some between.
func numbers() []uint64 {
	all := []uint64{0, 1, 2, 5, 100, 126, 127, 128, 129, 255, 256, 300, 16383, 16384, math.MaxUint64 - 1, math.MaxUint64}
	for i := range 64 {
		all = append(all, 1<<i-1, 1<<i, 1<<i+1)
	}
	mixed := sequence(11)
	for i := range 2000 {
		all = append(all, mixed.next()>>(i%64))
	}
	return all
}

func signedNumbers() []int64 {
	all := []int64{0, 1, -1, 2, -2, 63, 64, -63, -64, -65, math.MaxInt64, math.MinInt64, math.MaxInt64 - 1, math.MinInt64 + 1}
	for _, v := range numbers() {
		all = append(all, int64(v), -int64(v))
	}
	return all
}

// The models below follow the words of the chapter; their numbers are of any size.

func modelVarint(n *big.Int) string {
	var digits []byte
	rest, base := new(big.Int).Set(n), big.NewInt(128)
	for {
		digit := new(big.Int)
		rest.DivMod(rest, base, digit)
		digits = append(digits, byte(digit.Int64()))
		if rest.Sign() == 0 {
			break
		}
	}
	for i := range len(digits) - 1 {
		digits[i] += 128
	}
	return string(digits)
}

func modelSigned(v int64) *big.Int {
	n := big.NewInt(v)
	n.Mul(n, big.NewInt(2))
	if v < 0 {
		n.Neg(n)
		n.Sub(n, big.NewInt(1))
	}
	return n
}

func modelReadUint(s string, at int) (*big.Int, int, api.Errno) {
	none := new(big.Int)
	if at < 0 || at >= len(s) {
		return none, 0, api.ErrShort
	}
	last := at
	for last < len(s) && s[last] >= 128 {
		last++
	}
	switch {
	case last == len(s) && last-at < 10:
		return none, 0, api.ErrShort
	case last == len(s) || last-at >= 10:
		return none, 0, api.ErrForm
	case s[last] == 0 && last > at:
		return none, 0, api.ErrForm
	}
	n := new(big.Int)
	for i := last; i >= at; i-- {
		n.Mul(n, big.NewInt(128))
		n.Add(n, big.NewInt(int64(s[i]%128)))
	}
	if n.Cmp(new(big.Int).SetUint64(math.MaxUint64)) > 0 {
		return none, 0, api.ErrForm
	}
	return n, last + 1, api.OK
}

func modelReadInt(s string, at int) (*big.Int, int, api.Errno) {
	n, next, code := modelReadUint(s, at)
	if n.Bit(0) == 1 {
		n.Add(n, big.NewInt(1))
		n.Neg(n)
	}
	return n.Quo(n, big.NewInt(2)), next, code
}

// modelCrc divides as one does on paper: a polynomial is the list of its coefficients.
func modelCrc(s string) uint32 {
	rest := make([]bool, 32)
	for i := range rest {
		rest[i] = true
	}
	for i := range 8 * len(s) {
		bit := s[i/8]>>(i%8)&1 == 1
		carry := rest[31] != bit
		copy(rest[1:], rest[:31])
		rest[0] = false
		if carry {
			for _, power := range []int{0, 6, 8, 9, 10, 11, 13, 14, 18, 19, 20, 22, 23, 25, 26, 27, 28} {
				rest[power] = !rest[power]
			}
		}
	}
	var sum uint32
	for power, one := range rest {
		if !one {
			sum |= 1 << (31 - power)
		}
	}
	return sum
}

func modelFour(v uint32) string {
	return string([]byte{byte(v % 256), byte(v / 256 % 256), byte(v / 65536 % 256), byte(v / 16777216)})
}

// frameOf builds what is to be a frame, or one with a wrong length, sum or end.
func frameOf(size uint32, payload string, sum uint32, last byte) string {
	return modelFour(size) + payload + modelFour(sum) + string([]byte{last})
}

func goodFrame(payload string) string {
	return frameOf(uint32(len(payload)), payload, modelCrc(payload), 1)
}

func inverted(s string, bit int) string {
	all := []byte(s)
	all[bit/8] ^= 1 << (bit % 8)
	return string(all)
}

func checkReadUint(t *testing.T, s string, at int) {
	t.Helper()
	want, next, code := modelReadUint(s, at)
	v, gotNext, gotCode := enc.ReadUint(s, at)
	if v != want.Uint64() || gotNext != next || gotCode != code {
		t.Fatalf("ReadUint(%q, %d) is %d, %d, %d, not %v, %d, %d", s, at, v, gotNext, gotCode, want, next, code)
	}
	signed, next, code := modelReadInt(s, at)
	n, gotNext, gotCode := enc.ReadInt(s, at)
	if n != signed.Int64() || gotNext != next || gotCode != code {
		t.Fatalf("ReadInt(%q, %d) is %d, %d, %d, not %v, %d, %d", s, at, n, gotNext, gotCode, signed, next, code)
	}
}

func checkReadText(t *testing.T, s string, at int, want string, next int, code api.Errno) {
	t.Helper()
	got, gotNext, gotCode := enc.ReadText(s, at)
	if got != want || gotNext != next || gotCode != code {
		t.Fatalf("ReadText(%.60q, %d) is %.60q, %d, %d, not %.60q, %d, %d", s, at, got, gotNext, gotCode, want, next, code)
	}
}

func checkUnframe(t *testing.T, s string, at int, want string, next int, code api.Errno) {
	t.Helper()
	got, gotNext, gotCode := enc.Unframe(s, at)
	if got != want || gotNext != next || gotCode != code {
		t.Fatalf("Unframe(%.60q of %d, %d) is %.60q, %d, %d, not %.60q, %d, %d",
			s, len(s), at, got, gotNext, gotCode, want, next, code)
	}
}

func checkUnseal(t *testing.T, s, want string, code api.Errno) {
	t.Helper()
	if got, gotCode := enc.Unseal(s); got != want || gotCode != code {
		t.Fatalf("Unseal(%.60q of %d) is %.60q, %d, not %.60q, %d", s, len(s), got, gotCode, want, code)
	}
}

// P2.1
func TestUintIsTheVarint(t *testing.T) {
	for _, v := range numbers() {
		if got, want := enc.Uint(v), modelVarint(new(big.Int).SetUint64(v)); got != want {
			t.Errorf("Uint(%d) is %q, not %q", v, got, want)
		}
	}
	for v, want := range map[uint64]string{0: "\x00", 127: "\x7f", 128: "\x80\x01", 300: "\xac\x02",
		math.MaxUint64: "\xff\xff\xff\xff\xff\xff\xff\xff\xff\x01"} {
		if got := enc.Uint(v); got != want {
			t.Errorf("Uint(%d) is %q, not %q", v, got, want)
		}
	}
}

// P2.1
func TestIntIsTheVarintOfASignedNumber(t *testing.T) {
	for _, v := range signedNumbers() {
		if got, want := enc.Int(v), modelVarint(modelSigned(v)); got != want {
			t.Errorf("Int(%d) is %q, not %q", v, got, want)
		}
	}
	for v, want := range map[int64]string{0: "\x00", -1: "\x01", 1: "\x02", -64: "\x7f", 64: "\x80\x01",
		math.MaxInt64: "\xfe\xff\xff\xff\xff\xff\xff\xff\xff\x01",
		math.MinInt64: "\xff\xff\xff\xff\xff\xff\xff\xff\xff\x01"} {
		if got := enc.Int(v); got != want {
			t.Errorf("Int(%d) is %q, not %q", v, got, want)
		}
	}
}

// P2.2
func TestReadReturnsWhatWasWritten(t *testing.T) {
	for _, ahead := range []string{"", "\x00", "\x80", "ab\xff"} {
		for _, behind := range []string{"", "\x00", "\x80\x80", "\x01z"} {
			for _, v := range numbers() {
				s := ahead + enc.Uint(v)
				got, next, code := enc.ReadUint(s+behind, len(ahead))
				if got != v || next != len(s) || code != api.OK {
					t.Fatalf("ReadUint(%q, %d) is %d, %d, %d", s+behind, len(ahead), got, next, code)
				}
			}
			for _, v := range signedNumbers() {
				s := ahead + enc.Int(v)
				got, next, code := enc.ReadInt(s+behind, len(ahead))
				if got != v || next != len(s) || code != api.OK {
					t.Fatalf("ReadInt(%q, %d) is %d, %d, %d", s+behind, len(ahead), got, next, code)
				}
			}
		}
	}
}

// P2.2
func TestReadUintErrors(t *testing.T) {
	nine, ten := strings.Repeat("\x80", 9), strings.Repeat("\xff", 10)
	for _, c := range []struct {
		s    string
		at   int
		code api.Errno
	}{
		{"", 0, api.ErrShort}, {"", -1, api.ErrShort}, {"", 1, api.ErrShort},
		{"\x05", -1, api.ErrShort}, {"\x05", 1, api.ErrShort}, {"\x05", 2, api.ErrShort},
		{"\x05", math.MinInt, api.ErrShort}, {"\x05", math.MaxInt, api.ErrShort},
		{"\x80", 0, api.ErrShort}, {"\x80\x80\xff", 0, api.ErrShort}, {nine, 0, api.ErrShort}, {ten, 1, api.ErrShort},
		{"\x80\x00", 0, api.ErrForm}, {"\xff\x00", 0, api.ErrForm}, {"\x80\x80\x00", 0, api.ErrForm}, {nine + "\x00", 0, api.ErrForm},
		{nine + "\x02", 0, api.ErrForm}, {nine + "\x03", 0, api.ErrForm}, {nine + "\x7f", 0, api.ErrForm}, {ten[1:] + "\x02", 0, api.ErrForm},
		{nine + "\x80", 0, api.ErrForm}, {ten, 0, api.ErrForm}, {ten + "\x01", 0, api.ErrForm}, {ten + "\x00", 0, api.ErrForm},
		{ten + ten, 0, api.ErrForm}, {ten + ten, 10, api.ErrForm}, {ten + ten, 11, api.ErrShort},
		{"\x00\x80\x00", 1, api.ErrForm}, {"\x00\x80", 1, api.ErrShort},
	} {
		if v, next, code := enc.ReadUint(c.s, c.at); v != 0 || next != 0 || code != c.code {
			t.Errorf("ReadUint(%q, %d) is %d, %d, %d, not 0, 0, %d", c.s, c.at, v, next, code, c.code)
		}
		if v, next, code := enc.ReadInt(c.s, c.at); v != 0 || next != 0 || code != c.code {
			t.Errorf("ReadInt(%q, %d) is %d, %d, %d, not 0, 0, %d", c.s, c.at, v, next, code, c.code)
		}
	}
	if v, next, code := enc.ReadUint(nine+"\x01\x00", 0); v != 1<<63 || next != 10 || code != api.OK {
		t.Errorf("2^63 is read as %d, %d, %d", v, next, code)
	}
}

// P2.2
func TestReadUintOfEveryShortString(t *testing.T) {
	bytes := []string{"\x00", "\x01", "\x02", "\x40", "\x7f", "\x80", "\x81", "\xff"}
	level := []string{""}
	for range 4 {
		var longer []string
		for _, s := range level {
			for at := -1; at <= len(s)+1; at++ {
				checkReadUint(t, s, at)
			}
			for _, b := range bytes {
				longer = append(longer, s+b)
			}
		}
		level = longer
	}
}

// P2.2
func TestReadUintOfLongStrings(t *testing.T) {
	for size := range 14 {
		for _, digit := range []string{"\x80", "\x81", "\xaa", "\xff"} {
			start := strings.Repeat(digit, size)
			checkReadUint(t, start, 0)
			for last := range 256 {
				checkReadUint(t, start+string([]byte{byte(last)}), 0)
				checkReadUint(t, "\x05\x80"+start+string([]byte{byte(last), 0}), 2)
			}
		}
	}
	mixed := sequence(5)
	for range 500 {
		s := mixed.text(int(mixed.next() % 25))
		for _, at := range positions(len(s)) {
			checkReadUint(t, s, at)
		}
	}
}

// P2.3
func TestTextHasItsLengthAhead(t *testing.T) {
	mixed := sequence(7)
	for _, size := range []int{0, 1, 2, 126, 127, 128, 129, 255, 256, 16383, 16384, 70000} {
		s := mixed.text(size)
		want := modelVarint(big.NewInt(int64(size))) + s
		if got := enc.Text(s); got != want {
			t.Fatalf("Text of %d bytes is %.60q", size, got)
		}
		checkReadText(t, want, 0, s, len(want), api.OK)
		checkReadText(t, "\x80\xff"+want+"more", 2, s, len(want)+2, api.OK)
		checkReadText(t, want[:len(want)-1], 0, "", 0, api.ErrShort)
	}
	if got := enc.Text(""); got != "\x00" {
		t.Errorf("the empty string is %q", got)
	}
	if got := enc.Text("a\x00\xff"); got != "\x03a\x00\xff" {
		t.Errorf("three bytes are %q", got)
	}
}

// P2.3
func TestReadTextErrors(t *testing.T) {
	for _, c := range []struct {
		s    string
		at   int
		code api.Errno
	}{
		{"", 0, api.ErrShort}, {"\x00", 1, api.ErrShort}, {"\x00", -1, api.ErrShort},
		{"\x01a", math.MinInt, api.ErrShort}, {"\x01a", math.MaxInt, api.ErrShort},
		{"\x80", 0, api.ErrShort}, {"\x80\x00", 0, api.ErrForm}, {"\x81\x00a", 0, api.ErrForm},
		{"\x01", 0, api.ErrShort}, {"\x02a", 0, api.ErrShort}, {"\x01a\x02b", 2, api.ErrShort}, {"\x80\x01abc", 0, api.ErrShort},
		{strings.Repeat("\x80", 10) + "abc", 0, api.ErrForm},
		{strings.Repeat("\xff", 9) + "\x02abc", 0, api.ErrForm},
	} {
		checkReadText(t, c.s, c.at, "", 0, c.code)
	}
	for _, size := range []uint64{4, 5, 1 << 31, 1<<31 - 1, 1 << 32, 1 << 62, math.MaxInt64, math.MaxInt64 + 1, math.MaxUint64 - 3, math.MaxUint64} {
		checkReadText(t, "x"+enc.Uint(size)+"abc", 1, "", 0, api.ErrShort)
	}
}

// P2.3
func TestReadTextAtEveryPosition(t *testing.T) {
	s := enc.Text("one") + enc.Text("") + enc.Text("\x80\x80") + enc.Text("last") + "\x09"
	for _, at := range positions(len(s)) {
		size, start, code := modelReadUint(s, at)
		want, next := "", 0
		switch {
		case code != api.OK:
		case size.Cmp(big.NewInt(int64(len(s)-start))) > 0:
			code = api.ErrShort
		default:
			next = start + int(size.Int64())
			want = s[start:next]
		}
		checkReadText(t, s, at, want, next, code)
	}
}

// P2.4
func TestCrcOfOnePart(t *testing.T) {
	for s, want := range map[string]uint32{"": 0, "123456789": 0xe3069283, "a": 0xc1d04330, "\xab\x9b\xe0\x9b": 0} {
		if got := enc.Crc(s); got != want {
			t.Errorf("the sum of %q is %#x, not %#x", s, got, want)
		}
		if got := modelCrc(s); got != want {
			t.Errorf("the model's sum of %q is %#x, not %#x", s, got, want)
		}
	}
	for b := range 256 {
		s := string([]byte{byte(b)})
		if got, want := enc.Crc(s), modelCrc(s); got != want {
			t.Errorf("the sum of %q is %#x, not %#x", s, got, want)
		}
	}
	mixed := sequence(3)
	for size := range 300 {
		s := mixed.text(size)
		if got, want := enc.Crc(s), modelCrc(s); got != want {
			t.Errorf("the sum of %q is %#x, not %#x", s, got, want)
		}
	}
}

// P2.4
func TestCrcOfNothing(t *testing.T) {
	for _, parts := range [][]string{nil, {}, {""}, {"", "", ""}} {
		if got := enc.Crc(parts...); got != 0 {
			t.Errorf("the sum of %d empty parts is %#x", len(parts), got)
		}
	}
}

// P2.4
func TestCrcOfEveryDivision(t *testing.T) {
	const s = "123456789"
	for cuts := range 1 << (len(s) - 1) {
		var parts, spread []string
		start := 0
		for end := 1; end <= len(s); end++ {
			if end == len(s) || cuts>>(end-1)&1 == 1 {
				parts = append(parts, s[start:end])
				spread = append(spread, "", s[start:end], "")
				start = end
			}
		}
		kept := slices.Clone(parts)
		if got := enc.Crc(parts...); got != 0xe3069283 {
			t.Fatalf("the sum of %q is %#x", parts, got)
		}
		if got := enc.Crc(spread...); got != 0xe3069283 {
			t.Fatalf("the sum of %q is %#x", spread, got)
		}
		if !slices.Equal(parts, kept) {
			t.Fatalf("the parts are %q, not %q", parts, kept)
		}
	}
}

// P2.5
func TestFrameOfPayloads(t *testing.T) {
	mixed := sequence(13)
	for _, size := range []int{1, 2, 3, 4, 127, 128, 255, 256, 257, 65535, 65536, api.MaxFrame - 1, api.MaxFrame} {
		payload := mixed.text(size)
		got, code := enc.Frame(payload)
		if want := goodFrame(payload); got != want || code != api.OK {
			t.Errorf("the frame of %d bytes is %.60q of %d, %d", size, got, len(got), code)
		}
		checkUnframe(t, got, 0, payload, len(got), api.OK)
	}
	if got, code := enc.Frame("a"); got != "\x01\x00\x00\x00a\x30\x43\xd0\xc1\x01" || code != api.OK {
		t.Errorf("the frame of a is %q, %d", got, code)
	}
}

// P2.5
func TestFrameErrors(t *testing.T) {
	if got, code := enc.Frame(""); got != "" || code != api.ErrForm {
		t.Errorf("the frame of nothing is %q, %d", got, code)
	}
	for _, size := range []int{api.MaxFrame + 1, api.MaxFrame + 2, 2 * api.MaxFrame} {
		if got, code := enc.Frame(strings.Repeat("x", size)); got != "" || code != api.ErrLong {
			t.Errorf("the frame of %d bytes is %.60q, %d", size, got, code)
		}
	}
}

// P2.6
func TestUnframeAmongOthers(t *testing.T) {
	first, second := goodFrame("one"), goodFrame("\x00two\xff")
	s := "\x01" + first + second + "\x00\x00"
	checkUnframe(t, s, 1, "one", 1+len(first), api.OK)
	checkUnframe(t, s, 1+len(first), "\x00two\xff", len(s)-2, api.OK)
	checkUnframe(t, s, len(s)-2, "", 0, api.ErrShort)
}

// P2.6
func TestUnframeOutside(t *testing.T) {
	s := goodFrame("payload")
	for _, at := range positions(len(s)) {
		if at < 0 || at > len(s)-4 {
			checkUnframe(t, s, at, "", 0, api.ErrShort)
			checkUnframe(t, "", at, "", 0, api.ErrShort)
		}
	}
}

// P2.6
func TestUnframeOfPartsOfAFrame(t *testing.T) {
	for _, payload := range []string{"a", "payload", "\xab\x9b\xe0\x9b", strings.Repeat("\x00", 300)} {
		s := goodFrame(payload)
		for size := range len(s) {
			checkUnframe(t, s[:size], 0, "", 0, api.ErrShort)
			checkUnframe(t, "abc"+s[:size], 3, "", 0, api.ErrShort)
		}
	}
}

// P2.6
func TestUnframeErrors(t *testing.T) {
	sum := modelCrc("abc")
	huge := strings.Repeat("y", api.MaxFrame+1)
	for _, c := range []struct {
		s    string
		code api.Errno
	}{
		{frameOf(0, "", 0, 1), api.ErrForm},
		{"\x00\x00\x00\x00", api.ErrForm},
		{frameOf(0, "", 1, 0), api.ErrForm},
		{modelFour(api.MaxFrame + 1), api.ErrForm},
		{modelFour(api.MaxFrame+1) + "abc", api.ErrForm},
		{goodFrame(huge), api.ErrForm},
		{modelFour(math.MaxUint32), api.ErrForm},
		{modelFour(1<<31) + "abcdefgh", api.ErrForm},
		{modelFour(1), api.ErrShort},
		{modelFour(api.MaxFrame), api.ErrShort},
		{frameOf(api.MaxFrame, huge[2:], 0, 1), api.ErrShort},
		{frameOf(4, "abc", sum, 1), api.ErrShort},
		{frameOf(4, "abc", 0, 0), api.ErrShort},
		{frameOf(3, "abc", sum, 0), api.ErrForm},
		{frameOf(3, "abc", sum, 2), api.ErrForm},
		{frameOf(3, "abc", sum, 3), api.ErrForm},
		{frameOf(3, "abc", sum, 129), api.ErrForm},
		{frameOf(3, "abc", sum, 255), api.ErrForm},
		{frameOf(3, "abc", sum+1, 0), api.ErrForm},
		{frameOf(3, "abc", sum+1, 1), api.ErrCrc},
		{frameOf(3, "abc", ^sum, 1), api.ErrCrc},
		{frameOf(3, "abc", 0, 1), api.ErrCrc},
		{frameOf(3, "abd", sum, 1), api.ErrCrc},
		{frameOf(2, "abc", sum, 1), api.ErrForm},
	} {
		checkUnframe(t, c.s, 0, "", 0, c.code)
		if c.code != api.ErrShort {
			checkUnframe(t, "\x05\x00"+c.s+"more", 2, "", 0, c.code)
		}
	}
}

// P2.6: whatever of a frame's end was lost, what is left with zero bytes is no frame.
func TestUnframeOfALostEnd(t *testing.T) {
	for _, payload := range []string{"a", "\x00", "payload", "\xab\x9b\xe0\x9b", "\xab\x9b\xe0\x9b\x00\x00\x00", strings.Repeat("\x00", 40)} {
		s := goodFrame(payload)
		for lost := 1; lost <= len(s); lost++ {
			kept := s[:len(s)-lost] + strings.Repeat("\x00", lost)
			checkUnframe(t, kept, 0, "", 0, api.ErrForm)
		}
	}
}

// P2.7
func TestSealed(t *testing.T) {
	mixed := sequence(17)
	for _, size := range []int{0, 1, 2, 3, 4, 5, 100, 70000} {
		body := mixed.text(size)
		want := body + modelFour(modelCrc(body))
		if got := enc.Seal(body); got != want {
			t.Errorf("%.60q is sealed as %.60q", body, got)
		}
		checkUnseal(t, want, body, api.OK)
		again := enc.Seal(want)
		checkUnseal(t, again, want, api.OK)
	}
	if got := enc.Seal("a"); got != "a\x30\x43\xd0\xc1" {
		t.Errorf("a is sealed as %q", got)
	}
	if got := enc.Seal(""); got != "\x00\x00\x00\x00" {
		t.Errorf("nothing is sealed as %q", got)
	}
	checkUnseal(t, "\x00\x00\x00\x00", "", api.OK)
}

// P2.7
func TestUnsealErrors(t *testing.T) {
	for _, s := range []string{"", "a", "\x00", "\x00\x00", "\x00\x00\x00", "abc", "\xff\xff\xff"} {
		checkUnseal(t, s, "", api.ErrShort)
	}
	sum := modelCrc("abc")
	for _, s := range []string{"abcd", "\x00\x00\x00\x01", "\x01\x00\x00\x00", "\xff\xff\xff\xff", "\x00\x00\x00\x00\x00",
		"abc" + modelFour(sum+1), "abd" + modelFour(sum), "ab" + modelFour(sum), "abc" + modelFour(sum) + "\x00",
		"abc" + modelFour(sum)[:3], "abc\xa1\xb2\xc3\xd4"} {
		checkUnseal(t, s, "", api.ErrCrc)
	}
	// The sum's bytes in the other order are no sum.
	four := modelFour(sum)
	checkUnseal(t, "abc"+string([]byte{four[3], four[2], four[1], four[0]}), "", api.ErrCrc)
}

// bursts calls check with s in which bits from the bit from on, and ahead of the bit to, are inverted: every row
// of at most 32 consecutive ones, all of them, their ends alone, and mixtures.
func bursts(s string, from, to int, check func(string)) {
	mixed := sequence(23)
	for first := from; first < to; first++ {
		for size := 1; size <= 32 && first+size <= to; size++ {
			ends := uint64(1) | 1<<(size-1)
			inside := uint64(1)<<size - 1
			for _, pattern := range []uint64{ends, inside, ends | mixed.next()&inside, ends | mixed.next()&inside} {
				all := []byte(s)
				for i := range size {
					all[(first+i)/8] ^= byte(pattern>>i&1) << ((first + i) % 8)
				}
				check(string(all))
			}
		}
	}
}

// P2.8
func TestUnsealFindsBursts(t *testing.T) {
	mixed := sequence(29)
	for _, body := range []string{"", "a", "\x00\x00\x00\x00\x00\x00", "123456789", mixed.text(33)} {
		s := enc.Seal(body)
		bursts(s, 0, 8*len(s), func(changed string) {
			checkUnseal(t, changed, "", api.ErrCrc)
		})
	}
}

// P2.8
func TestUnframeFindsBursts(t *testing.T) {
	mixed := sequence(31)
	for _, payload := range []string{"a", "\x00\x00\x00\x00\x00\x00", "123456789", mixed.text(33)} {
		s, code := enc.Frame(payload)
		if code != api.OK {
			t.Fatalf("the frame of %q: %d", payload, code)
		}
		bursts(s, 32, 8*(len(s)-1), func(changed string) {
			checkUnframe(t, changed, 0, "", 0, api.ErrCrc)
		})
	}
}

// P2.8: in long ones too, where a sum of few bits, or one of another polynomial, would fail.
func TestBurstsInLongStrings(t *testing.T) {
	mixed := sequence(37)
	body := mixed.text(3000)
	sealed := enc.Seal(body)
	framed, _ := enc.Frame(body)
	for range 300 {
		bit := int(mixed.next() % uint64(8*len(body)))
		changed := inverted(sealed, bit)
		if other := bit + int(mixed.next()%32); other != bit {
			changed = inverted(changed, other)
		}
		checkUnseal(t, changed, "", api.ErrCrc)
		checkUnframe(t, framed[:4]+changed+"\x01", 0, "", 0, api.ErrCrc)
	}
}

// P1
func TestEveryStringAtEveryPosition(t *testing.T) {
	mixed := sequence(41)
	texts := []string{"", "\x00", "\xff", strings.Repeat("\xff", 30), strings.Repeat("\x00", 30), goodFrame("abc"), enc.Seal("abc"), enc.Text("abc")}
	for size := range 40 {
		texts = append(texts, mixed.text(size))
	}
	for _, s := range texts {
		enc.Unseal(s)
		for _, at := range positions(len(s)) {
			enc.ReadUint(s, at)
			enc.ReadInt(s, at)
			enc.ReadText(s, at)
			enc.Unframe(s, at)
		}
	}
}

// P2, and rule 9: a call's answer is the same, whatever other calls came between.
func TestCallsAreIndependent(t *testing.T) {
	frame, _ := enc.Frame("abc")
	for range 3 {
		enc.Crc("something", "else")
		enc.Frame("other")
		enc.Uint(math.MaxUint64)
		enc.Unframe(inverted(frame, 40), 0)
		checkUnframe(t, frame, 0, "abc", len(frame), api.OK)
		if enc.Uint(300) != "\xac\x02" || enc.Crc("123456789") != 0xe3069283 || frame != goodFrame("abc") {
			t.Fatal("an answer has changed")
		}
	}
}
