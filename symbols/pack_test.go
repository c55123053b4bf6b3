package symbols_test

import (
	"math"
	"slices"
	"strings"
	"testing"

	"almanac/api"
	"almanac/enc"
	"almanac/labels"
	"almanac/symbols"
)

// mixedSymbols are good names and values, and texts that are no names, no values, or neither.
func mixedSymbols() []string {
	return modelOf([]string{"", "1a", "a", "aa", "b", "\xff", strings.Repeat("n", 33), strings.Repeat("v", 65)})
}

// goodSets are sets of few and of many labels, short and long.
func goodSets() [][]api.Label {
	long := lettered(api.MaxLabels)
	for i := range long {
		long[i].Name = strings.Repeat(long[i].Name, api.MaxName)
		long[i].Value = strings.Repeat("\xfe", api.MaxValue)
	}
	return [][]api.Label{
		pairs("a", "b"), pairs("b", "a"), pairs("a", "a"), pairs("a", "b", "b", "a"), pairs("A", "\x00", "_", "\xff", "a", "_"),
		lettered(api.MaxLabels - 1), lettered(api.MaxLabels), long,
	}
}

// P5.4
func TestPackExamples(t *testing.T) {
	table := symbols.Of("b", "a", "b")
	checkPack(t, table, pairs("a", "b"), "\x01\x00\x01", api.OK)
	checkPack(t, table, pairs("b", "a"), "\x01\x01\x00", api.OK)
	checkPack(t, table, pairs("a", "a"), "\x01\x00\x00", api.OK)
	checkPack(t, table, pairs("a", "b", "b", "b"), "\x02\x00\x01\x01\x01", api.OK)
	checkPack(t, symbols.Of("", "a", "job", "\xff"), pairs("a", "\xff", "job", "a"), "\x02\x01\x03\x02\x01", api.OK)
	checkPack(t, symbols.Collect(lettered(8)), lettered(8), "\x08\x08\x00\x09\x01\x0a\x02\x0b\x03\x0c\x04\x0d\x05\x0e\x06\x0f\x07", api.OK)
}

// P5.4
func TestPackOfNumbersOfMoreDigits(t *testing.T) {
	table := symbols.Of(counted(20000)...)
	checkPack(t, table, pairs("n000127", "n000128"), "\x01\x7f\x80\x01", api.OK)
	checkPack(t, table, pairs("n000128", "n000127", "n000300", "n000000"), "\x02\x80\x01\x7f\xac\x02\x00", api.OK)
	checkPack(t, table, pairs("n016383", "n016384"), "\x01\xff\x7f\x80\x80\x01", api.OK)
}

// P5.4: the errors of the list come ahead of those of the table.
func TestPackErrorsOfTheList(t *testing.T) {
	many := append(lettered(api.MaxLabels), pairs("", "")...)
	for _, c := range []struct {
		list []api.Label
		code api.Errno
	}{
		{nil, api.ErrEmpty}, {[]api.Label{}, api.ErrEmpty}, {many, api.ErrMany}, {lettered(api.MaxLabels + 1), api.ErrMany},
		{pairs("", "a"), api.ErrName}, {pairs("1a", "a"), api.ErrName}, {pairs("a b", ""), api.ErrName}, {pairs(strings.Repeat("n", 33), "a"), api.ErrName},
		{pairs("a", ""), api.ErrValue}, {pairs("a", strings.Repeat("v", 65)), api.ErrValue}, {pairs("a", "x", "b", ""), api.ErrValue}, {pairs("a", "x", "", "x"), api.ErrName},
		{pairs("a", "x", "a", "x"), api.ErrTwice}, {pairs("a", "x", "a", "y"), api.ErrTwice}, {pairs("b", "x", "a", "y"), api.ErrTwice}, {pairs("a", "1", "c", "1", "b", "1"), api.ErrTwice},
	} {
		for _, table := range []*symbols.Table{nil, symbols.Of(), symbols.Of("other"), symbols.Of("", "a"), symbols.Collect(c.list)} {
			checkPack(t, table, c.list, "", c.code)
		}
	}
}

// P5.4
func TestPackOfTextsThatAreNotThere(t *testing.T) {
	for _, texts := range [][]string{nil, {"a"}, {"b"}, {"a", "b", "c"}, {"a", "b", "d"}, {"a", "c", "d"}, {"b", "c", "d"}, {"", "aa", "bb", "cc", "dd", "\xff"}} {
		checkPack(t, symbols.Of(texts...), pairs("a", "b", "c", "d"), "", api.ErrSymbol)
	}
	checkPack(t, symbols.Of("a"), pairs("a", "b"), "", api.ErrSymbol)
	checkPack(t, symbols.Of("b"), pairs("a", "b"), "", api.ErrSymbol)
	checkPack(t, symbols.Of("a", "b", "c", "d"), pairs("a", "b", "c", "d"), "\x02\x00\x01\x02\x03", api.OK)
}

// P5.4
func TestPackOfEverySmallList(t *testing.T) {
	tables := smallLists(3, []string{"", "a", "b", "x"})
	for _, list := range smallLists(3, pairs("a", "x", "a", "b", "b", "a", "c", "x", "", "a", "x", "")) {
		for _, texts := range tables {
			want, code := modelPack(modelOf(texts), list)
			checkPack(t, symbols.Of(texts...), list, want, code)
		}
	}
}

// P5.4, P5.5: whichever way a table has come about, what it packs is unpacked again.
func TestUnpackOfWhatWasPacked(t *testing.T) {
	sets := append(goodSets(), pairs("n000127", "n000128"), pairs("n000128", "n000300", "n000299", "n000000"))
	wide := symbols.Of(append(counted(400), modelCollect(sets)...)...)
	read, _, _ := symbols.Decode(wide.Encode(), 0)
	for _, set := range sets {
		for _, table := range []*symbols.Table{wide, read, symbols.Collect(set), symbols.Collect(sets...)} {
			s, code := table.Pack(set)
			if code != api.OK {
				t.Fatalf("Pack of %q is %d", set, code)
			}
			for _, ahead := range []string{"", "\x00", "\x80\xff", "\x01\x00\x01"} {
				for _, behind := range []string{"", "\x00", "\xff\x80", "\x01\x00", s} {
					checkUnpack(t, table, ahead+s+behind, len(ahead), set, len(ahead)+len(s), api.OK)
				}
			}
		}
	}
}

// P5.5
func TestUnpackCounts(t *testing.T) {
	set := lettered(api.MaxLabels)
	table := symbols.Collect(lettered(api.MaxLabels + 1))
	eight, _ := table.Pack(set)
	checkUnpack(t, table, eight, 0, set, 1+2*api.MaxLabels, api.OK)
	for count := 1; count <= api.MaxLabels; count++ {
		s := modelUint(count) + eight[1:]
		checkUnpack(t, table, s, 0, set[:count], 1+2*count, api.OK)
		checkUnpack(t, table, s[:2*count], 0, nil, 0, api.ErrShort)
	}
	nine := "\x09" + eight[1:] + "\x11\x08"
	for _, s := range []string{"\x00", "\x00" + eight[1:]} {
		checkUnpack(t, table, s, 0, nil, 0, api.ErrEmpty)
	}
	for _, s := range []string{"\x09", nine, "\x7f" + nine[1:], "\x80\x01" + nine[1:], enc.Uint(1<<32 + 1), enc.Uint(1<<63) + nine, enc.Uint(math.MaxUint64)} {
		checkUnpack(t, table, s, 0, nil, 0, api.ErrMany)
	}
	for _, s := range []string{"", "\x80", "\xff\xff"} {
		checkUnpack(t, table, s, 0, nil, 0, api.ErrShort)
	}
	for _, s := range []string{"\x80\x00", "\x81\x00\x00\x01", strings.Repeat("\xff", 10)} {
		checkUnpack(t, table, s, 0, nil, 0, api.ErrForm)
	}
}

// P5.5
func TestUnpackErrors(t *testing.T) {
	table := symbols.Of("", "1a", "a", "b", strings.Repeat("n", 33), strings.Repeat("v", 65)) // 0 to 5
	for _, c := range []struct {
		s    string
		code api.Errno
	}{
		{"\x01", api.ErrShort}, {"\x01\x02", api.ErrShort}, {"\x02\x02\x03", api.ErrShort}, {"\x02\x02\x03\x03", api.ErrShort}, {"\x01\x80", api.ErrShort}, {"\x01\x02\x80", api.ErrShort},
		{"\x01\x82\x00\x03", api.ErrForm}, {"\x01\x02\x82\x00", api.ErrForm}, {"\x02\x02\x03\x03\x80\x00", api.ErrForm},
		{"\x01\x06\x02", api.ErrSymbol}, {"\x01\x02\x06", api.ErrSymbol}, {"\x01\x7f\x02", api.ErrSymbol}, {"\x01\x80\x01\x02", api.ErrSymbol}, {"\x02\x02\x03\x03\x06", api.ErrSymbol},
		{"\x01" + enc.Uint(1<<32+2) + "\x03", api.ErrSymbol}, {"\x01" + enc.Uint(1<<63+2) + "\x03", api.ErrSymbol}, {"\x01\x02" + enc.Uint(1<<63), api.ErrSymbol},
		{"\x01\x02" + enc.Uint(math.MaxInt64), api.ErrSymbol}, {"\x01" + enc.Uint(math.MaxUint64) + "\x02", api.ErrSymbol}, {"\x01\x02" + enc.Uint(math.MaxUint64), api.ErrSymbol},
		// A name that is not there comes ahead of a value that can't be read, and the other way about.
		{"\x01\x06", api.ErrSymbol}, {"\x01\x06\x80", api.ErrSymbol}, {"\x01\x06\x80\x00", api.ErrSymbol}, {"\x01\x80\x00\x06", api.ErrForm}, {"\x01\x06\x06", api.ErrSymbol},
		// Both numbers come ahead of a name that does not fit, and it ahead of its value.
		{"\x01\x01", api.ErrShort}, {"\x01\x01\x06", api.ErrSymbol}, {"\x01\x00\x80\x00", api.ErrForm}, {"\x01\x00\x06", api.ErrSymbol},
		{"\x01\x00\x02", api.ErrName}, {"\x01\x01\x02", api.ErrName}, {"\x01\x04\x02", api.ErrName}, {"\x01\x05\x02", api.ErrName}, {"\x01\x00\x00", api.ErrName}, {"\x01\x01\x05", api.ErrName},
		{"\x01\x02\x00", api.ErrValue}, {"\x01\x02\x05", api.ErrValue}, {"\x02\x02\x02\x03\x00", api.ErrValue}, {"\x02\x02\x02\x01\x00", api.ErrName}, {"\x02\x02\x00\x01\x00", api.ErrValue},
		// Both fit, but the names do not ascend.
		{"\x02\x02\x03\x02\x03", api.ErrTwice}, {"\x02\x02\x03\x02\x02", api.ErrTwice}, {"\x02\x03\x02\x02\x03", api.ErrTwice}, {"\x03\x03\x02\x02\x03", api.ErrTwice},
		{"\x02\x03\x02\x02\x00", api.ErrValue}, {"\x02\x03\x02\x00\x02", api.ErrName}, {"\x02\x03\x02\x02\x06", api.ErrSymbol}, {"\x02\x03\x02\x02", api.ErrShort}, {"\x03\x02\x02\x02\x02\x06\x06", api.ErrTwice},
	} {
		checkUnpack(t, table, c.s, 0, nil, 0, c.code)
		checkUnpack(t, table, "\x01\x02\x03"+c.s, 3, nil, 0, c.code)
	}
	checkUnpack(t, symbols.Of("b", "a", "b"), "\x01\x00\x02", 0, nil, 0, api.ErrSymbol)
	checkUnpack(t, table, "\x02\x02\x03\x03\x04", 0, pairs("a", "b", "b", strings.Repeat("n", 33)), 5, api.OK)
}

// P5.5
func TestUnpackOfNamesInEveryOrder(t *testing.T) {
	names := []string{"A", "B", "Z", "_", "_0", "a", "a0", "aA", "a_", "aa", "b"}
	table := symbols.Of(names...)
	for _, set := range smallLists(3, names) {
		if len(set) == 0 {
			continue
		}
		s, list := modelUint(len(set)), []api.Label{}
		for _, name := range set {
			s += modelUint(slices.Index(names, name)) + "\x00"
			list = append(list, api.Label{Name: name, Value: "A"})
		}
		if slices.Equal(modelOf(set), set) {
			checkUnpack(t, table, s, 0, list, len(s), api.OK)
		} else {
			checkUnpack(t, table, s, 0, nil, 0, api.ErrTwice)
		}
	}
}

// P5.5
func TestUnpackOfLengthsAtTheLimits(t *testing.T) {
	for _, size := range []int{0, 1, 2, 31, 32, 33, 63, 64, 65, 66, 1000} {
		name, value := strings.Repeat("n", size), strings.Repeat("\xff", size)
		if table := symbols.Of(name, "v"); size >= 1 && size <= api.MaxName {
			checkUnpack(t, table, "\x01\x00\x01", 0, pairs(name, "v"), 3, api.OK)
		} else {
			checkUnpack(t, table, "\x01\x00\x01", 0, nil, 0, api.ErrName)
		}
		if table := symbols.Of("", "n", value); size >= 1 && size <= api.MaxValue {
			checkUnpack(t, table, "\x01\x01\x02", 0, pairs("n", value), 3, api.OK)
		} else if size > 0 {
			checkUnpack(t, table, "\x01\x01\x02", 0, nil, 0, api.ErrValue)
		}
	}
}

// P5.5
func TestUnpackAtEveryPosition(t *testing.T) {
	texts := mixedSymbols()
	table := symbols.Of(texts...)
	packed, _ := table.Pack(pairs("a", "b", "aa", "\xff", "b", "1a"))
	s := "\x01\x02\x03" + packed + "\x00\x01\x80\x01" + packed + "\x01\x02"
	for at := -3; at <= len(s)+3; at++ {
		set, next, code := modelUnpack(texts, s, at)
		checkUnpack(t, table, s, at, set, next, code)
	}
	for _, at := range farPositions(len(s)) {
		checkUnpack(t, table, s, at, nil, 0, api.ErrShort)
	}
	for _, at := range farPositions(0) {
		checkUnpack(t, table, "", at, nil, 0, api.ErrShort)
	}
}

// P5.5: no other bytes than those that Pack gives are read as a set.
func checkUnpackAsTheModel(t *testing.T, table *symbols.Table, texts []string, s string) {
	t.Helper()
	set, next, code := modelUnpack(texts, s, 0)
	checkUnpack(t, table, s, 0, set, next, code)
	if code != api.OK {
		return
	}
	if packed, _ := table.Pack(set); packed != s[:next] || !labels.Valid(set) {
		t.Fatalf("%q is read as %q, which is packed in another way", s[:next], set)
	}
}

// P5.5
func TestUnpackOfEveryShortText(t *testing.T) {
	texts := mixedSymbols()
	table := symbols.Of(texts...)
	everyText("\x00\x01\x02\x03\x04\x07\x08\x80", 5, func(s string) { checkUnpackAsTheModel(t, table, texts, s) })
	everyText("\x02\x03\x04\x06", 6, func(s string) { checkUnpackAsTheModel(t, table, texts, "\x02"+s) })
}

// P5.5
func TestUnpackOfChangedBytes(t *testing.T) {
	texts := modelOf(append(counted(300), mixedSymbols()...))
	table := symbols.Of(texts...)
	for _, set := range [][]api.Label{pairs("a", "b"), pairs("a", "1a", "b", "\xff", "n000000", "n000010"), pairs("n000200", "n000201", "n000202", "a")} {
		packed, code := table.Pack(set)
		if code != api.OK {
			t.Fatalf("Pack of %q is %d", set, code)
		}
		for end := range len(packed) {
			checkUnpack(t, table, packed[:end], 0, nil, 0, api.ErrShort)
		}
		changed(packed, func(s string) { checkUnpackAsTheModel(t, table, texts, s) })
	}
}

// P5.5, rule 4: the sets that are read are new memory, and the table keeps its own.
func TestSetsThatAreUnpackedShareNothing(t *testing.T) {
	table := symbols.Of("a", "b", "x")
	want := pairs("a", "x", "b", "a")
	for range 3 {
		set, _, _ := table.Unpack("\x02\x00\x02\x01\x00", 0)
		if !slices.Equal(set, want) {
			t.Fatalf("an answer has changed: %q", set)
		}
		kept, _, _ := table.Unpack("\x02\x00\x02\x01\x00", 0)
		for i := range set {
			set[i] = api.Label{Name: "other", Value: "other"}
		}
		_ = append(set[:1], api.Label{})
		if !slices.Equal(kept, want) {
			t.Fatalf("another answer was changed: %q", kept)
		}
		checkTable(t, table, []string{"a", "b", "x"})
	}
}

// P5.4, rule 4
func TestPackLeavesTheSetAsItWas(t *testing.T) {
	memory := pairs("b", "x", "a", "x", "a", "b")
	kept := slices.Clone(memory)
	table := symbols.Of("a", "b", "x")
	checkPack(t, table, memory[:2], "", api.ErrTwice)
	checkPack(t, table, memory[1:2], "\x01\x00\x02", api.OK)
	checkPack(t, table, memory[2:], "\x01\x00\x01", api.OK)
	if !slices.Equal(memory, kept) {
		t.Errorf("the set is now %q", memory)
	}
	checkTable(t, table, []string{"a", "b", "x"})
}

// P2: what one table packs is another thing to another table.
func TestTablesAreIndependent(t *testing.T) {
	first, second := symbols.Of("a", "b"), symbols.Of("a", "b", "_")
	for range 2 {
		checkPack(t, first, pairs("a", "b"), "\x01\x00\x01", api.OK)
		checkPack(t, second, pairs("a", "b"), "\x01\x01\x02", api.OK)
		checkPack(t, first, pairs("_", "b"), "", api.ErrSymbol)
		checkUnpack(t, first, "\x01\x01\x02", 0, nil, 0, api.ErrSymbol)
		checkUnpack(t, second, "\x01\x00\x01", 0, pairs("_", "a"), 3, api.OK)
	}
}
