package labels_test

import (
	"math"
	"slices"
	"strings"
	"testing"

	"almanac/api"
	"almanac/enc"
	"almanac/labels"
)

// P4.1, P4.4, P4.6
func TestEverySmallList(t *testing.T) {
	for _, list := range smallLists(4, mixedLabels()) {
		set, code := modelMake(list)
		checkMake(t, list, set, code)
		code = modelSet(list)
		if got := labels.Valid(list); got != (code == api.OK) {
			t.Fatalf("Valid of %q is %t", list, got)
		}
		want := ""
		if code == api.OK {
			want = modelEncode(list)
		}
		checkEncode(t, list, want, code)
		if got, want := labels.Show(list), modelShow(list); got != want {
			t.Fatalf("%q is shown as %q, not %q", list, got, want)
		}
	}
}

// P4.1
func TestMakeCounts(t *testing.T) {
	for _, none := range [][]api.Label{nil, {}} {
		checkMake(t, none, nil, api.ErrEmpty)
		if labels.Valid(none) {
			t.Error("no labels are a set")
		}
	}
	for count := 1; count <= api.MaxLabels; count++ {
		set := numbered(count)
		checkMake(t, set, set, api.OK)
		if !labels.Valid(set) {
			t.Errorf("%d labels are no set", count)
		}
	}
	for _, count := range []int{api.MaxLabels + 1, api.MaxLabels + 2, 26, 1000} {
		checkMake(t, numbered(count), nil, api.ErrMany)
		if labels.Valid(numbered(count)) {
			t.Errorf("%d labels are a set", count)
		}
	}
}

// P4.1
func TestBytesOfNames(t *testing.T) {
	const first = "ABCDEFGHIJKLMNOPQRSTUVWXYZ_abcdefghijklmnopqrstuvwxyz"
	const digits = "0123456789"
	for _, b := range allBytes() {
		c := string([]byte{b})
		for name, allowed := range map[string]string{c: first, c + "a": first, c + "9": first, "a" + c: first + digits, "_" + c + "0": first + digits, "Z9z" + c: first + digits} {
			list, good := pairs(name, "x"), strings.Contains(allowed, c)
			if good {
				checkMake(t, list, list, api.OK)
			} else {
				checkMake(t, list, nil, api.ErrName)
			}
			if labels.Valid(list) != good {
				t.Errorf("Valid of the name %q is %t", name, !good)
			}
		}
	}
}

// P4.1
func TestLengthsOfNamesAndValues(t *testing.T) {
	for _, size := range []int{0, 1, 2, api.MaxName - 1, api.MaxName, api.MaxName + 1, api.MaxValue - 1, api.MaxValue, api.MaxValue + 1, 300, 100000} {
		list := pairs(strings.Repeat("n", size), "v")
		if size >= 1 && size <= api.MaxName {
			checkMake(t, list, list, api.OK)
		} else {
			checkMake(t, list, nil, api.ErrName)
		}
		list = pairs("n", strings.Repeat("\xff", size))
		if size >= 1 && size <= api.MaxValue {
			checkMake(t, list, list, api.OK)
		} else {
			checkMake(t, list, nil, api.ErrValue)
		}
	}
}

// P4.1
func TestBytesOfValues(t *testing.T) {
	for _, b := range allBytes() {
		list := pairs("n", string([]byte{b}))
		checkMake(t, list, list, api.OK)
		if !labels.Valid(list) {
			t.Errorf("Valid of the value %q is false", list[0].Value)
		}
	}
}

// P4.1
func TestMakeSorts(t *testing.T) {
	want := pairs("A", "9", "_", "8", "_1", "7", "a", "6", "a0", "5", "aa", "4", "b", "3")
	checkMake(t, pairs("b", "1", "a", "x"), pairs("a", "x", "b", "1"), api.OK)
	for first := range want {
		for step := range len(want) - 1 { // their number is prime, so every step gets to all of them
			var list []api.Label
			for i := range want {
				list = append(list, want[(first+i*(step+1))%len(want)])
			}
			checkMake(t, list, want, api.OK)
			if got, same := labels.Valid(list), slices.Equal(list, want); got != same {
				t.Errorf("Valid of %q is %t", list, got)
			}
		}
	}
}

// P4.1
func TestMakeOfANameTwice(t *testing.T) {
	for _, list := range [][]api.Label{
		pairs("a", "1", "a", "2"), pairs("a", "1", "a", "1"), pairs("a", "1", "b", "2", "a", "3"),
		pairs("b", "1", "a", "2", "b", "1"), append(numbered(api.MaxLabels-1), numbered(1)...),
	} {
		checkMake(t, list, nil, api.ErrTwice)
		if labels.Valid(list) {
			t.Errorf("%q is a set", list)
		}
	}
	list := pairs("a", "1", "A", "1", "aa", "1")
	checkMake(t, list, pairs("A", "1", "a", "1", "aa", "1"), api.OK)
}

// P4.1
func TestMakeReturnsTheFirstError(t *testing.T) {
	many := append(numbered(api.MaxLabels), pairs("", "", "na", "")...)
	for _, c := range []struct {
		list []api.Label
		code api.Errno
	}{
		{many, api.ErrMany},
		{many[1:], api.ErrMany},
		{many[2:], api.ErrName},
		{pairs("", ""), api.ErrName},
		{pairs("1a", "x"), api.ErrName},
		{pairs("a", "", "", "x"), api.ErrValue},
		{pairs("", "x", "a", ""), api.ErrName},
		{pairs("a", "x", "a", ""), api.ErrValue},
		{pairs("a", "x", "a", "y", "", "x"), api.ErrTwice},
		{pairs("a", "x", "a", "y", "b", ""), api.ErrTwice},
		{pairs("a", "x", "b", "", "a", "y"), api.ErrValue},
		{pairs("a", "x", "-", "", "a", "y"), api.ErrName},
		{pairs("", "x", "", "y"), api.ErrName},
		{pairs("a", "", "a", ""), api.ErrValue},
	} {
		checkMake(t, c.list, nil, c.code)
		checkEncode(t, c.list, "", c.code)
	}
}

// P4.1, rule 4
func TestMakeReturnsNewMemory(t *testing.T) {
	memory := pairs("c", "1", "b", "2", "a", "3", "-", "")
	kept := slices.Clone(memory)
	first, code := labels.Make(memory[:3]...)
	if want := pairs("a", "3", "b", "2", "c", "1"); code != api.OK || !slices.Equal(first, want) {
		t.Fatalf("Make is %q, %d", first, code)
	}
	if !slices.Equal(memory, kept) {
		t.Fatalf("the list is now %q", memory)
	}
	second, _ := labels.Make(first...)
	for i := range first {
		first[i] = api.Label{}
	}
	first = append(first, api.Label{})
	if !slices.Equal(memory, kept) || !slices.Equal(second, pairs("a", "3", "b", "2", "c", "1")) {
		t.Errorf("another list was changed: %q, %q", memory, second)
	}
}

// P4.1
func TestValidOfListsThatAreNoSets(t *testing.T) {
	for _, list := range [][]api.Label{
		pairs("b", "1", "a", "x"), pairs("a", "1", "c", "2", "b", "3"), pairs("a", "1", "A", "1"), pairs("a", "1", "a", "2"),
		pairs("aa", "1", "a", "1"), pairs("a", ""), pairs("", "a"), pairs("a b", "x"),
	} {
		if labels.Valid(list) {
			t.Errorf("%q is a set", list)
		}
	}
	memory := pairs("a", "1", "b", "2", "a", "3")
	if !labels.Valid(memory[:2]) {
		t.Error("what lies behind the list was read")
	}
}

// P4.2
func TestCompare(t *testing.T) {
	for _, c := range []struct {
		a, b []api.Label
		want int
	}{
		{nil, nil, 0}, {nil, pairs("a", "1"), -1}, {nil, pairs("", ""), -1},
		{pairs("a", "1"), pairs("a", "1"), 0},
		{pairs("a", "1"), pairs("a", "1", "b", "0"), -1},
		{pairs("a", "1", "b", "2"), pairs("a", "1", "b", "2"), 0},
		{pairs("a", "1", "b", "2"), pairs("a", "1", "b", "3"), -1},
		{pairs("a", "1", "b", "9"), pairs("a", "1", "c", "1"), -1},
		{pairs("a", "1", "b", "9"), pairs("a", "2"), -1},
		{pairs("a", "9"), pairs("b", "1"), -1},
		{pairs("a", "2"), pairs("ab", "1"), -1},
		{pairs("a", "b"), pairs("ab", ""), -1},
		{pairs("a", "1"), pairs("a", "1\x00"), -1},
		{pairs("a", "10"), pairs("a", "9"), -1},
		{pairs("a", "~"), pairs("a", "\x80"), -1},
		{pairs("a", "\x7f"), pairs("a", "\xff"), -1},
		{pairs("a", "\xc3\xa9"), pairs("a", "\xff"), -1},
		{pairs("B", "1"), pairs("a", "1"), -1},
		{pairs("a", "1"), pairs("\x80", "1"), -1},
		{pairs("a", "x", "a", "y"), pairs("a", "x", "a", "z"), -1},
		{pairs("b", "x", "a", "y"), pairs("b", "x", "c", "x"), -1},
		{pairs("b", "x", "a", "y"), pairs("a", "z"), 1},
		{pairs("", "", "", ""), pairs("", ""), 1},
	} {
		if got := labels.Compare(c.a, c.b); got != c.want {
			t.Errorf("Compare(%q, %q) is %d, not %d", c.a, c.b, got, c.want)
		}
		if got := labels.Compare(c.b, c.a); got != -c.want {
			t.Errorf("Compare(%q, %q) is %d, not %d", c.b, c.a, got, -c.want)
		}
	}
}

// P4.2: the texts between bytes of 0 and 1, which are lower than every other, stand as the lists do.
func TestCompareOfEveryTwoLists(t *testing.T) {
	all := smallLists(2, pairs("a", "x", "a", "y", "b", "x", "ab", "\xff", "a", "", "", "xa", "\x80", "x"))
	flat := func(list []api.Label) string {
		s := ""
		for _, label := range list {
			s += "\x01" + label.Name + "\x00" + label.Value + "\x00"
		}
		return s
	}
	for _, a := range all {
		for _, b := range all {
			if got, want := labels.Compare(a, b), strings.Compare(flat(a), flat(b)); got != want {
				t.Fatalf("Compare(%q, %q) is %d, not %d", a, b, got, want)
			}
		}
	}
}

// P4.3
func TestGet(t *testing.T) {
	set := pairs("a", "1", "b", "2", "c", "3")
	mixed := pairs("b", "2", "a", "1", "b", "3", "", "4", "0", "\xff", "z", "", "z", "5")
	for _, c := range []struct {
		list       []api.Label
		name, want string
	}{
		{set, "a", "1"}, {set, "b", "2"}, {set, "c", "3"}, {set, "d", ""}, {set, "", ""}, {set, "A", ""}, {set, "a\x00", ""},
		{nil, "a", ""}, {nil, "", ""}, {set[:1], "b", ""},
		{mixed, "b", "2"}, {mixed, "a", "1"}, {mixed, "", "4"}, {mixed, "0", "\xff"}, {mixed, "z", ""}, {mixed, "x", ""},
	} {
		if got := labels.Get(c.list, c.name); got != c.want {
			t.Errorf("Get(%q, %q) is %q, not %q", c.list, c.name, got, c.want)
		}
	}
}

// P4.4
func TestEncode(t *testing.T) {
	checkEncode(t, pairs("a", "x", "b", "1"), "\x02\x01a\x01x\x01b\x011", api.OK)
	for _, set := range goodSets() {
		checkEncode(t, set, modelEncode(set), api.OK)
	}
	for _, list := range [][]api.Label{pairs("b", "1", "a", "x"), pairs("a", "1", "c", "2", "b", "3"), pairs("aa", "1", "a", "1"), pairs("a", "1", "B", "2")} {
		checkEncode(t, list, "", api.ErrTwice)
	}
	checkEncode(t, nil, "", api.ErrEmpty)
	checkEncode(t, numbered(api.MaxLabels+1), "", api.ErrMany)
	checkEncode(t, pairs("b", "1", "a", ""), "", api.ErrValue)
	checkEncode(t, pairs("b", "1", "", "1"), "", api.ErrName)
	checkEncode(t, pairs("b", "1", "a", "1", "b", "1"), "", api.ErrTwice)
}

// P4.5
func TestDecodeReadsWhatWasEncoded(t *testing.T) {
	for _, set := range goodSets() {
		s, _ := labels.Encode(set)
		for _, ahead := range []string{"", "\x00", "\x80\xff", "\x01\x01a\x01x"} {
			for _, behind := range []string{"", "\x00", "\xff\x80", "\x01z\x01z", s} {
				checkDecode(t, ahead+s+behind, len(ahead), set, len(ahead)+len(s), api.OK)
			}
		}
	}
}

// P4.5
func TestDecodeErrors(t *testing.T) {
	eight := modelEncode(numbered(api.MaxLabels))
	nine := modelEncode(numbered(api.MaxLabels + 1))
	for _, c := range []struct {
		s    string
		code api.Errno
	}{
		{"", api.ErrShort}, {"\x80", api.ErrShort}, {"\x81\x00\x01a\x01x", api.ErrForm}, {strings.Repeat("\xff", 10), api.ErrForm},
		{"\x00", api.ErrEmpty}, {"\x00\x01a\x01x", api.ErrEmpty}, {"\x80\x00", api.ErrForm},
		{"\x09", api.ErrMany}, {nine, api.ErrMany}, {"\xff\x01", api.ErrMany}, {enc.Uint(1 << 32), api.ErrMany},
		{enc.Uint(1<<32 + 1), api.ErrMany}, {enc.Uint(1 << 63), api.ErrMany}, {enc.Uint(math.MaxUint64), api.ErrMany},
		{"\x01", api.ErrShort}, {"\x01\x01", api.ErrShort}, {"\x01\x01a", api.ErrShort}, {"\x01\x01a\x01", api.ErrShort},
		{"\x01\x81\x00a\x01x", api.ErrForm}, {"\x01\x01a\x81\x00x", api.ErrForm}, {"\x01\x02a", api.ErrShort},
		{"\x01\x011", api.ErrShort}, {"\x01\x011\x01", api.ErrShort}, {"\x01\x011\x80\x00", api.ErrForm},
		{"\x01\x00\x00", api.ErrName}, {"\x01\x00\x01x", api.ErrName}, {"\x01\x011\x01x", api.ErrName}, {"\x01\x011\x00", api.ErrName},
		{"\x01" + enc.Text(strings.Repeat("n", 33)) + "\x01x", api.ErrName},
		{"\x01\x01a\x00", api.ErrValue}, {"\x01\x01a" + enc.Text(strings.Repeat("v", 65)), api.ErrValue},
		{"\x02\x01a\x00\x01-\x01x", api.ErrValue}, {"\x02\x01a\x01x", api.ErrShort}, {"\x02\x01a\x01x\x01a\x01", api.ErrShort},
		{"\x02\x01a\x01x\x01a\x00", api.ErrValue}, {"\x02\x01a\x01x\x011\x01x", api.ErrName}, {"\x02\x01a\x01x\x00\x01x", api.ErrName},
		{"\x02\x01a\x01x\x01a\x01x", api.ErrTwice}, {"\x02\x01a\x01x\x01a\x01y", api.ErrTwice}, {"\x02\x01b\x01x\x01a\x01y", api.ErrTwice},
		{"\x03\x01b\x01x\x01a\x01y", api.ErrTwice}, {"\x03\x01a\x01x\x01c\x01x\x01b\x01x", api.ErrTwice},
		{"\x03\x01a\x01x\x01b\x01x\x01a\x01x", api.ErrTwice}, {"\x03\x01b\x01x\x01a\x01x\x00\x00", api.ErrTwice},
		{"\x08" + eight[1:len(eight)-1], api.ErrShort},
	} {
		checkDecode(t, c.s, 0, nil, 0, c.code)
		checkDecode(t, "\x01\x01a\x01x"+c.s, 5, nil, 0, c.code)
	}
	checkDecode(t, eight, 0, numbered(api.MaxLabels), len(eight), api.OK)
}

// P4.5
func TestDecodeAtEveryPosition(t *testing.T) {
	s := "\x01\x01a\x01x" + "\x02\x01\x01\x01b\x02\x01y" + modelEncode(goodSets()[4]) + "\x01\x01"
	for at := -3; at <= len(s)+3; at++ {
		set, next, code := modelDecode(s, at)
		checkDecode(t, s, at, set, next, code)
	}
	for _, at := range []int{math.MinInt, math.MinInt + 1, -1, len(s), len(s) + 1, math.MaxInt - 1, math.MaxInt} {
		checkDecode(t, s, at, nil, 0, api.ErrShort)
		checkDecode(t, "", at, nil, 0, api.ErrShort)
	}
}

// P4.5: no other bytes than those that Encode gives are read as a set.
func TestDecodeOfChangedBytes(t *testing.T) {
	for _, set := range goodSets()[:6] {
		changed(modelEncode(set), allBytes(), func(s string) {
			want, next, code := modelDecode(s, 0)
			checkDecode(t, s, 0, want, next, code)
			if code != api.OK {
				return
			}
			if again, _ := labels.Encode(want); again != s[:next] {
				t.Fatalf("%q is read as a set whose encoding is %q", s[:next], again)
			}
		})
	}
}

// P4.5, P4.6, P2
func TestSetsThatAreReadShareNothing(t *testing.T) {
	want := pairs("a", "x", "b", "1")
	s, text := modelEncode(want), modelShow(want)
	for range 3 {
		decoded, _, _ := labels.Decode(s, 0)
		read, _ := labels.Read(text)
		if !slices.Equal(decoded, want) || !slices.Equal(read, want) {
			t.Fatalf("an answer has changed: %q, %q", decoded, read)
		}
		for i := range want {
			decoded[i].Value, read[i].Name = "other", "other"
		}
	}
}

// P1
func TestLongLists(t *testing.T) {
	list := make([]api.Label, 100000)
	long := strings.Repeat("n", 100000)
	list[99999] = api.Label{Name: long, Value: long}
	checkMake(t, list, nil, api.ErrMany)
	checkEncode(t, list, "", api.ErrMany)
	if labels.Valid(list) || labels.Show(list) != "" || labels.Compare(list, list[1:]) != -1 || labels.Get(list, long) != long {
		t.Error("a long list is another")
	}
}
