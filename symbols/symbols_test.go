package symbols_test

import (
	"math"
	"slices"
	"strings"
	"testing"

	"almanac/api"
	"almanac/enc"
	"almanac/symbols"
)

// listsOfTexts are none, one, several that begin one another, and bytes from 128 on.
func listsOfTexts() [][]string {
	long := strings.Repeat("\xfe", 20000)
	return [][]string{
		nil, {}, {""}, {"", ""}, {"a"}, {"\x00"}, {"b", "a", "b"}, {"a", "a", "a", "a"}, {"a", "b", "c"}, {"c", "b", "a"},
		{"aa", "a", "", "aaa", "ab", "a\x00", "a"}, {"", "\x00", "\x00\x00", ""},
		{"\x80", "\x7f", "\xff", "z", "\xc3\xa9", "\xc3", "\xa9", "\xff"}, {"10", "9", "-1", "010"}, {"a", "B", "A", "b"},
		{strings.Repeat("x", 127), strings.Repeat("x", 128), strings.Repeat("x", 129), "x"}, {long, long[1:], long, "\xff"},
		{"a\nb", "a", "b", "\"", "a\x00b"},
	}
}

// P5.1, P5.2, P5.3
func TestOf(t *testing.T) {
	for _, list := range listsOfTexts() {
		checkTable(t, symbols.Of(list...), modelOf(list))
	}
	checkTable(t, symbols.Of(), nil)
	checkTable(t, symbols.Of("b", "a", "b"), []string{"a", "b"})
	checkTable(t, symbols.Of("", "\xff", "\x80", "a", ""), []string{"", "a", "\x80", "\xff"})
}

// P5.1, P5.2, P5.3
func TestOfEverySmallList(t *testing.T) {
	for _, list := range smallLists(4, []string{"", "a", "a\x00", "aa", "b", "\x80", "\xff"}) {
		checkTable(t, symbols.Of(list...), modelOf(list))
	}
}

// P5.1, P5.2, P5.3
func TestOfManyTexts(t *testing.T) {
	for _, count := range []int{126, 127, 128, 129, 300, 16383, 16384, 16385} {
		texts := counted(count)
		checkTable(t, symbols.Of(texts...), texts)
		list := append(slices.Clone(texts), texts...)
		slices.Reverse(list)
		checkTable(t, symbols.Of(list...), texts)
	}
	list := mixedTexts(20000)
	checkTable(t, symbols.Of(list...), modelOf(list))
}

// P5.1
func TestCollect(t *testing.T) {
	many := append(lettered(12), pairs("", "", "na me", "")...)
	for _, sets := range [][][]api.Label{
		nil, {}, {nil}, {nil, {}, nil}, {pairs("a", "b")}, {pairs("b", "a")}, {pairs("a", "a")}, {lettered(8)}, {lettered(8), lettered(8)},
		{pairs("a", "b"), pairs("b", "c"), nil, pairs("c", "a")}, {pairs("job", "x", "le", "1"), pairs("job", "y", "x", "job")},
		// These are no sets.
		{pairs("", "")}, {pairs("1a", "x")}, {pairs("a", "")}, {pairs("b", "1", "a", "2")}, {pairs("a", "1", "a", "2")},
		{pairs("\xff", "\x80", "\x00", "a b")}, {many}, {many, lettered(3)}, {pairs(strings.Repeat("n", 300), strings.Repeat("v", 300))},
	} {
		checkTable(t, symbols.Collect(sets...), modelCollect(sets))
	}
	checkTable(t, symbols.Collect(), nil)
	checkTable(t, symbols.Collect(pairs("b", "a"), pairs("a", "c")), []string{"a", "b", "c"})
	checkTable(t, symbols.Collect(pairs("n", "v", "n", "w"), pairs("", "n")), []string{"", "n", "v", "w"})
}

// P5.1
func TestCollectOfEverySmallList(t *testing.T) {
	sets := smallLists(2, pairs("a", "b", "b", "a", "", "\xff", "ab", "", "a", "a"))
	for _, lists := range smallLists(2, sets) {
		checkTable(t, symbols.Collect(lists...), modelCollect(lists))
	}
}

// P5.1
func TestCollectOfManySets(t *testing.T) {
	var sets [][]api.Label
	texts := mixedTexts(6000)
	for i := 0; i < len(texts); i += 6 {
		sets = append(sets, pairs(texts[i:i+6]...))
	}
	checkTable(t, symbols.Collect(sets...), modelOf(texts))
}

// P5.1, rule 4
func TestListsOfTextsAreLeftAsTheyWere(t *testing.T) {
	memory := []string{"c", "a", "c", "b", "a", "-", "", "a"}
	kept := slices.Clone(memory)
	first, second := symbols.Of(memory[:5]...), symbols.Of(memory[:5]...)
	checkTable(t, first, []string{"a", "b", "c"})
	if !slices.Equal(memory, kept) {
		t.Fatalf("the list is now %q", memory)
	}
	ascending := []string{"a", "b", "c", "d"}
	third := symbols.Of(ascending...)
	for i := range memory {
		memory[i] = "other"
	}
	clear(ascending)
	checkTable(t, first, []string{"a", "b", "c"})
	checkTable(t, second, []string{"a", "b", "c"})
	checkTable(t, third, []string{"a", "b", "c", "d"})
}

// P5.1, rule 4
func TestSetsAreLeftAsTheyWere(t *testing.T) {
	memory := pairs("b", "x", "a", "x", "b", "c", "-", "")
	kept := slices.Clone(memory)
	sets := [][]api.Label{memory[1:3], nil, memory[:3], pairs("other", "other")}
	table := symbols.Collect(sets[:3]...)
	checkTable(t, table, []string{"a", "b", "c", "x"})
	if !slices.Equal(memory, kept) || len(sets[0]) != 2 || sets[1] != nil || len(sets[2]) != 3 || sets[3][0].Name != "other" {
		t.Fatalf("the sets are now %q in %q", sets, memory)
	}
	clear(memory)
	clear(sets)
	checkTable(t, table, []string{"a", "b", "c", "x"})
}

// P5.1: a nil table stands for one without texts, in every call.
func TestNilTable(t *testing.T) {
	var none *symbols.Table
	empty := symbols.Of()
	if none.Len() != 0 || none.Encode() != "\x00" {
		t.Errorf("a nil table has %d texts, and is written as %q", none.Len(), none.Encode())
	}
	for _, n := range append(farPositions(3), 0, 1, 2) {
		checkText(t, none, n, "", api.ErrSymbol)
		checkText(t, empty, n, "", api.ErrSymbol)
	}
	for _, s := range []string{"", "a", "\x00", "\xff", strings.Repeat("x", 1000)} {
		checkNumber(t, none, s, 0, api.ErrSymbol)
		checkNumber(t, empty, s, 0, api.ErrSymbol)
	}
	for _, list := range smallLists(3, pairs("a", "x", "b", "x", "", "x", "c", "")) {
		want, code := modelPack(nil, list)
		checkPack(t, none, list, want, code)
		checkPack(t, empty, list, want, code)
	}
	everyText("\x00\x01\x08\x09\x80\xff", 4, func(s string) {
		for at := -1; at <= len(s)+1; at++ {
			set, next, code := modelUnpack(nil, s, at)
			checkUnpack(t, none, s, at, set, next, code)
			checkUnpack(t, empty, s, at, set, next, code)
		}
	})
}

// P1
func TestZeroTable(t *testing.T) {
	var zero symbols.Table
	zero.Len()
	zero.Text(0)
	zero.Number("")
	zero.Encode()
	zero.Pack(pairs("a", "b"))
	zero.Unpack("\x01\x00\x00", 0)
}

// P5.2
func TestNumbersOfTextsThatAreNotThere(t *testing.T) {
	lists := append(listsOfTexts(), counted(300), mixedTexts(300))
	for _, list := range lists {
		texts, table := modelOf(list), symbols.Of(list...)
		for _, s := range []string{"", "\x00", "a", "m", "\xff\xff\xff\xff\xff\xff"} {
			n, code := modelNumber(texts, s)
			checkNumber(t, table, s, n, code)
		}
		for _, text := range texts {
			for _, s := range neighbours(text) {
				n, code := modelNumber(texts, s)
				checkNumber(t, table, s, n, code)
			}
		}
	}
	table := symbols.Of("b", "d", "f")
	for _, s := range []string{"", "a", "c", "e", "g", "bb", "B", "b\x00", "f\x00", "\xff"} {
		checkNumber(t, table, s, 0, api.ErrSymbol)
	}
}

// P5.3
func TestEncodeExamples(t *testing.T) {
	for _, c := range []struct {
		list []string
		want string
	}{
		{nil, "\x00"}, {[]string{""}, "\x01\x00"}, {[]string{"b", "a", "b"}, "\x02\x01a\x01b"},
		{[]string{"\xff", "", "\x80\x00"}, "\x03\x00\x02\x80\x00\x01\xff"},
		{[]string{strings.Repeat("x", 128)}, "\x01\x80\x01" + strings.Repeat("x", 128)},
	} {
		if got := symbols.Of(c.list...).Encode(); got != c.want {
			t.Errorf("the encoding of %q is %q, not %q", c.list, got, c.want)
		}
	}
	if got := symbols.Of(counted(300)...).Encode(); !strings.HasPrefix(got, "\xac\x02\x07n000000\x07n000001") || len(got) != 2+300*8 {
		t.Errorf("the encoding of 300 texts is %.60q of %d bytes", got, len(got))
	}
}

// P5.3
func TestDecodeReadsWhatWasEncoded(t *testing.T) {
	lists := append(listsOfTexts(), counted(127), counted(128), counted(300), mixedTexts(2000))
	for _, list := range lists {
		texts, s := modelOf(list), symbols.Of(list...).Encode()
		for _, ahead := range []string{"", "\x00", "\x80\xff", "\x01\x01a"} {
			for _, behind := range []string{"", "\x00", "\xff\x80", "\x01z", s} {
				checkDecode(t, ahead+s+behind, len(ahead), texts, len(ahead)+len(s), api.OK)
			}
		}
	}
	checkDecode(t, modelEncode(counted(20000)), 0, counted(20000), 3+20000*8, api.OK)
}

// P5.3
func TestDecodeErrors(t *testing.T) {
	for _, c := range []struct {
		s    string
		code api.Errno
	}{
		{"", api.ErrShort}, {"\x80", api.ErrShort}, {"\x80\x00", api.ErrForm}, {"\x81\x00\x01a", api.ErrForm}, {strings.Repeat("\xff", 10), api.ErrForm},
		{"\x01", api.ErrShort}, {"\x01\x01", api.ErrShort}, {"\x01\x02a", api.ErrShort}, {"\x01\x80", api.ErrShort}, {"\x01\x81\x00a", api.ErrForm},
		{"\x01" + enc.Uint(math.MaxUint64) + "a", api.ErrShort}, {"\x01" + enc.Uint(1<<63) + "a", api.ErrShort}, {"\x01" + enc.Uint(1<<32+1) + "a", api.ErrShort},
		// More texts are told than follow.
		{"\x02\x01a", api.ErrShort}, {"\x02\x01a\x01", api.ErrShort}, {"\x03\x01a\x01b", api.ErrShort}, {"\x7f\x00\x01a", api.ErrShort},
		{enc.Uint(math.MaxUint64) + "\x00\x01a", api.ErrShort}, {enc.Uint(1<<63) + "\x00\x01a", api.ErrShort}, {enc.Uint(1<<32) + "\x01a", api.ErrShort}, {enc.Uint(1 << 40), api.ErrShort},
		// Texts that do not ascend.
		{"\x02\x01b\x01a", api.ErrOrder}, {"\x02\x01a\x01a", api.ErrOrder}, {"\x02\x00\x00", api.ErrOrder}, {"\x02\x01a\x00", api.ErrOrder},
		{"\x02\x02aa\x01a", api.ErrOrder}, {"\x02\x01\x80\x01\x7f", api.ErrOrder}, {"\x02\x01\xff\x02a\xff", api.ErrOrder}, {"\x02\x02\xc3\xa9\x01\xc3", api.ErrOrder},
		{"\x03\x01a\x01c\x01b", api.ErrOrder}, {"\x03\x00\x01a\x00", api.ErrOrder}, {"\x04\x01a\x01b\x01c\x01c", api.ErrOrder}, {"\x03\x01b\x01c\x01a", api.ErrOrder},
		// An error of a text comes ahead of its order, and behind that of the previous one.
		{"\x02\x01b\x02a", api.ErrShort}, {"\x02\x01b\x81\x00a", api.ErrForm}, {"\x02\x01b", api.ErrShort}, {"\x02\x01b\x80", api.ErrShort},
		{"\x03\x01b\x01a", api.ErrOrder}, {"\x03\x01b\x01a\x05x", api.ErrOrder}, {"\x03\x01b\x01b\x80\x00", api.ErrOrder}, {enc.Uint(math.MaxUint64) + "\x01b\x01b", api.ErrOrder},
	} {
		checkDecode(t, c.s, 0, nil, 0, c.code)
		checkDecode(t, "\x02\x01a\x01b"+c.s, 5, nil, 0, c.code)
	}
}

// P5.3
func TestDecodeAtEveryPosition(t *testing.T) {
	s := "\x02\x01a\x01b\x00" + "\x03\x00\x02\x01\x01\x03\x01\x80b" + modelEncode(counted(3)) + "\x01\x80"
	for at := -3; at <= len(s)+3; at++ {
		texts, next, code := modelDecode(s, at)
		checkDecode(t, s, at, texts, next, code)
	}
	for _, at := range farPositions(len(s)) {
		checkDecode(t, s, at, nil, 0, api.ErrShort)
	}
	for _, at := range farPositions(0) {
		checkDecode(t, "", at, nil, 0, api.ErrShort)
	}
}

// P5.3
func TestDecodeOfEveryBeginning(t *testing.T) {
	for _, texts := range [][]string{{""}, {"a", "b"}, {"", "\x00", strings.Repeat("x", 200)}, counted(130)} {
		s := modelEncode(texts)
		for end := range len(s) {
			checkDecode(t, s[:end], 0, nil, 0, api.ErrShort)
		}
		checkDecode(t, s, 0, texts, len(s), api.OK)
	}
}

// P5.3: no other bytes than those that Encode gives are read as a table.
func checkDecodeAsTheModel(t *testing.T, s string) {
	t.Helper()
	texts, next, code := modelDecode(s, 0)
	checkDecode(t, s, 0, texts, next, code)
	if code == api.OK && symbols.Of(texts...).Encode() != s[:next] {
		t.Fatalf("%q is read as %q, which is written in another way", s[:next], texts)
	}
}

// P5.3
func TestDecodeOfChangedBytes(t *testing.T) {
	for _, texts := range [][]string{nil, {""}, {"a", "b"}, {"", "a", "a\x00", "ab"}, {"\x01", "\x01\x01", "\x7f", "\x80", "\xff"}, {strings.Repeat("x", 130), "y"}} {
		changed(modelEncode(texts), func(s string) { checkDecodeAsTheModel(t, s) })
	}
}

// P5.3
func TestDecodeOfEveryShortText(t *testing.T) {
	everyText("\x00\x01\x02\x03a\x80", 6, func(s string) { checkDecodeAsTheModel(t, s) })
}

// P2
func TestTablesThatAreReadAreIndependent(t *testing.T) {
	s := symbols.Of("a", "b").Encode() + "\x01\x01c"
	first, next, _ := symbols.Decode(s, 0)
	second, _, _ := symbols.Decode(s, 0)
	third, _, _ := symbols.Decode(s, next)
	checkTable(t, third, []string{"c"})
	for _, table := range []*symbols.Table{first, second} {
		checkTable(t, table, []string{"a", "b"})
	}
	if first == second {
		t.Error("both tables are the same one")
	}
}
