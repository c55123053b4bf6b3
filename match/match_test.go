package match_test

import (
	"slices"
	"strings"
	"testing"

	"almanac/api"
	"almanac/match"
)

// P8.1, P8.2
func TestKinds(t *testing.T) {
	for i, kind := range kinds {
		if int(kind) != i {
			t.Errorf("the kind at %d is %d", i, kind)
		}
		checkNew(t, kind, "a", "x", api.OK)
	}
	for _, kind := range wrongKinds {
		checkNew(t, kind, "a", "x", api.ErrKind)
	}
}

// P8.1, rule 1: an error of the kind comes first, then one of the name, then one of the value.
func TestOrderOfErrors(t *testing.T) {
	for _, kind := range append(slices.Clone(wrongKinds), kinds...) {
		for _, name := range []string{"a", "1a", "", strings.Repeat("n", 33)} {
			for _, value := range []string{"", "x", "(", strings.Repeat("v", 65)} {
				checkNew(t, kind, name, value, asked{kind, name, value}.error())
			}
		}
	}
	checkNew(t, 4, "", "(", api.ErrKind)
	checkNew(t, match.Like, "", "(", api.ErrName)
	checkNew(t, match.Equal, "1", strings.Repeat("v", 65), api.ErrName)
}

// P8.1: the bytes of names.
func TestBytesOfNames(t *testing.T) {
	const first = "ABCDEFGHIJKLMNOPQRSTUVWXYZ_abcdefghijklmnopqrstuvwxyz"
	const digits = "0123456789"
	for b := range 256 {
		c := string([]byte{byte(b)})
		for name, allowed := range map[string]string{c: first, c + "a": first, "a" + c: first + digits, "_" + c + "0": first + digits} {
			want := api.ErrName
			if strings.Contains(allowed, c) {
				want = api.OK
			}
			for _, kind := range kinds {
				checkNew(t, kind, name, "", want)
			}
		}
	}
}

// P8.1: the lengths of names, and of values of either sort.
func TestLengths(t *testing.T) {
	for _, kind := range kinds {
		for _, size := range []int{0, 1, 2, 31, 32, 33, 64, 1 << 20} {
			want := api.ErrName
			if size >= 1 && size <= api.MaxName {
				want = api.OK
			}
			checkNew(t, kind, strings.Repeat("n", size), "x", want)
		}
		for _, size := range []int{0, 1, 2, 63, 64, 65, 66, 128, 1 << 20} {
			want := api.OK
			if size > 64 && kind >= match.Like {
				want = api.ErrPattern
			} else if size > 64 {
				want = api.ErrValue
			}
			for _, part := range []string{"v", "\xff", "\x00"} {
				checkNew(t, kind, "n", strings.Repeat(part, size), want)
			}
		}
	}
}

// P8.1: of Like and Unlike each error of a pattern; for Equal and Unequal these are ordinary values.
func TestErrorsOfPatterns(t *testing.T) {
	for value, code := range map[string]api.Errno{
		"(": api.ErrOpen, "(a": api.ErrOpen, "a)": api.ErrClose, ")": api.ErrClose, "[b-a]": api.ErrClass, "[]": api.ErrClass, "[": api.ErrClass,
		"*": api.ErrRepeat, "a|+": api.ErrRepeat, "(?": api.ErrRepeat, "a\\": api.ErrEscape, "[\\": api.ErrEscape,
		strings.Repeat("(", 17): api.ErrNest, strings.Repeat("a", 65): api.ErrPattern, strings.Repeat("(", 65): api.ErrPattern,
	} {
		for _, kind := range []match.Kind{match.Like, match.Unlike} {
			checkNew(t, kind, "a", value, code)
		}
		if len(value) <= 64 {
			checkNew(t, match.Equal, "a", value, api.OK)
			checkNew(t, match.Unequal, "a", value, api.OK)
		}
	}
}

// P8.1, P8.2: the empty value.
func TestEmptyValue(t *testing.T) {
	for _, kind := range kinds {
		m := made(t, kind, "a", "")
		same := kind == match.Equal || kind == match.Like
		for v, want := range map[string]bool{"": same, "a": !same, "\x00": !same, " ": !same, `""`: !same} {
			if m.Value(v) != want {
				t.Errorf("%s matches %q: %t", m.Show(), v, !want)
			}
		}
		// A name that does not occur has the empty value.
		for _, list := range [][]api.Label{nil, {}, pairs("b", "x"), pairs("A", "x", "aa", "x"), pairs("a", "")} {
			if m.Matches(list) != same {
				t.Errorf("%s matches %q: %t", m.Show(), list, !same)
			}
		}
		if m.Matches(pairs("a", "x")) == same || m.Matches(pairs("A", "", "a", "x", "b", "")) == same {
			t.Errorf("%s against a list in which the name occurs: %t", m.Show(), same)
		}
	}
}

// P8.2: what each kind matches, and what it does not.
func TestValue(t *testing.T) {
	long := strings.Repeat("v", 64)
	for _, c := range []struct{ value, equal, like, other string }{ // separated by spaces; - is the empty string
		{"x", "x", "x", "- X xx ax xa y"},
		{"a|b", "a|b", "a b", "- ab a| |b c"},
		{"1.*", "1.*", "1 10 1.* 1\n\xff", "- 21 0 .1"},
		{".*", ".*", "- a .* \n \x00\xff é", ".*"},
		{"a*", "a*", "- a aa aaaa", "b ab a*b"},
		{"(a|b)+c?", "(a|b)+c?", "a b abc bac", "- c cc abcc (a|b)+c"},
		{"[^x]", "[^x]", "a ^ \xff", "- x ab é"},
		{"a\\*", "a\\*", "a*", "a aa a\\a"},
		{"^a$", "^a$", "^a$", "a ^a a$"},
		{"é", "é", "é", "e \xc3 \xa9 éé"},
		{"|x", "|x", "- x", "| y xx"},
		{long, long, long, long[1:] + " " + long + "v " + "x" + long[1:]},
	} {
		ms := makeAll(t, []asked{{match.Equal, "n", c.value}, {match.Unequal, "n", c.value}, {match.Like, "n", c.value}, {match.Unlike, "n", c.value}})
		for _, v := range strings.Split(c.equal+" "+c.like+" "+c.other, " ") {
			likes := slices.Contains(strings.Split(c.like, " "), v)
			v = strings.Trim(v, "-")
			for i, want := range []bool{v == c.value, v != c.value, likes, !likes} {
				if got := ms[i].Value(v); got != want {
					t.Errorf("%s matches %q: %t", ms[i].Show(), v, got)
				}
			}
		}
	}
}

// P8.2: all short values and patterns against all short values.
func TestEveryShortValue(t *testing.T) {
	var short []string
	everyList([]string{"a", "b", "\xff"}, 3, func(s string) { short = append(short, s) })
	everyList([]string{"a", "b", "|", "*", ".", "("}, 4, func(value string) {
		for _, kind := range kinds {
			a := asked{kind, "n", value}
			m, code := match.New(kind, "n", value)
			if code != a.error() {
				t.Fatalf("New of %s is %d", a.text(), code)
			}
			for _, v := range short {
				if code == api.OK && m.Value(v) != a.fits(v) {
					t.Fatalf("%s matches %q: %t", a.text(), v, m.Value(v))
				}
			}
		}
	})
}

// P8.2: of any list, also of one that is no set, the first value of the name counts.
func TestMatchesOfLists(t *testing.T) {
	equal, unequal := made(t, match.Equal, "job", "x"), made(t, match.Unequal, "job", "x")
	like, unlike := made(t, match.Like, "job", "x|z*"), made(t, match.Unlike, "job", "x|z*")
	for _, c := range []struct {
		list       []api.Label
		same, fits bool
	}{
		{nil, false, true},
		{pairs("job", "x"), true, true}, {pairs("job", "y"), false, false}, {pairs("job", "zz"), false, true}, {pairs("job", ""), false, true},
		{pairs("a", "y", "job", "x", "z", "y"), true, true}, {pairs("a", "x", "job", "y", "z", "x"), false, false},
		{pairs("jobs", "y", "jo", "y", "JOB", "y", "", "y", "job ", "y"), false, true}, {pairs("jobs", "x", "jo", "x", "JOB", "x"), false, true},
		{pairs("job", "x", "job", "y"), true, true}, {pairs("job", "y", "job", "x"), false, false}, {pairs("job", "", "job", "y"), false, true},
		{pairs("z", "y", "job", "x", "a", "y", "1", "y"), true, true},
		{pairs("job", strings.Repeat("z", 100000)), false, true}, {pairs("job", strings.Repeat("z", 100000)+"x"), false, false},
	} {
		for m, want := range map[*match.Matcher]bool{equal: c.same, unequal: !c.same, like: c.fits, unlike: !c.fits} {
			if got := m.Matches(c.list); got != want {
				t.Errorf("%s matches %.200q: %t", m.Show(), c.list, got)
			}
		}
	}
}

// P8.2, P8.3: nil matchers.
func TestNilMatcher(t *testing.T) {
	var none *match.Matcher
	for _, v := range values {
		if none.Value(v) || none.Matches(pairs("a", v)) || none.Matches(pairs("", v)) || match.All(pairs("a", v), none) {
			t.Errorf("a nil matcher matches %.20q", v)
		}
	}
	if none.Matches(nil) || match.All(nil, none) || none.Name() != "" || none.Show() != "" {
		t.Error("a nil matcher tells of something")
	}
}

// P1: a zero Matcher is one, too; its kind is Equal, its name and its value are empty.
func TestZeroMatcher(t *testing.T) {
	m := &match.Matcher{}
	if !m.Value("") || m.Value("a") || !m.Matches(nil) || !m.Matches(pairs("a", "x")) || m.Matches(pairs("", "x")) || !match.All(nil, m) {
		t.Error("a zero matcher does not ask for the empty value")
	}
	if m.Name() != "" || m.Show() != `=""` || match.Show(m, m) != `="",=""` {
		t.Errorf("a zero matcher is shown as %q", m.Show())
	}
}

// P8.3
func TestAll(t *testing.T) {
	lists := [][]api.Label{nil, pairs("a", "x"), pairs("a", "y", "b", "x"), pairs("b", "y"), pairs("b", "x", "a", "x"), pairs("a", "y", "a", "x")}
	some := makeAll(t, []asked{{match.Equal, "a", "x"}, {match.Unequal, "a", "x"}, {match.Like, "b", "x|y"}, {match.Unlike, "b", "y?"}, {match.Equal, "b", ""}})
	some = append(some, nil)
	for _, list := range lists {
		if !match.All(list) || !match.All(list, []*match.Matcher{}...) {
			t.Errorf("%q does not fit no matchers", list)
		}
		for _, a := range some {
			for _, b := range some {
				for _, c := range some {
					want := a.Matches(list) && b.Matches(list) && c.Matches(list)
					if got := match.All(list, a, b, c); got != want {
						t.Errorf("%q fits %q, %q, %q: %t", list, a.Show(), b.Show(), c.Show(), got)
					}
				}
			}
		}
	}
	x := made(t, match.Equal, "a", "x")
	many := slices.Repeat([]*match.Matcher{x}, 10000)
	if !match.All(lists[1], many...) || match.All(lists[1], append(many, made(t, match.Unequal, "a", "x"))...) || match.All(lists[1], append(many, nil)...) {
		t.Error("the last one of many matchers does not count")
	}
}

// P2, rule 9: matchers are independent, and answer the same again.
func TestMatchersInTurns(t *testing.T) {
	var all []asked
	for _, kind := range kinds {
		for _, name := range []string{"a", "b"} {
			for _, value := range []string{"", "a", "ab", "a*", "(a|b)*", ".", "[^a]b?"} {
				all = append(all, asked{kind, name, value})
			}
		}
	}
	ms := makeAll(t, all)
	for range 2 {
		for i := range ms {
			checkMatcher(t, ms[i], all[i])
			checkMatcher(t, ms[len(ms)-1-i], all[len(ms)-1-i])
		}
	}
	if made(t, match.Like, "a", "x") == made(t, match.Like, "a", "x") {
		t.Error("two matchers are the same")
	}
}

// Rule 4: lists are neither changed nor kept, nor is there anything read behind their lengths.
func TestListsAreLeftAlone(t *testing.T) {
	m := made(t, match.Equal, "a", "x")
	list, ms := pairs("b", "y", "a", "x", "b", "x"), []*match.Matcher{m, m, nil}
	if !m.Matches(list[:2]) || !match.All(list[:2], ms[:2]...) || match.Show(ms[:2]...) != `a="x",a="x"` {
		t.Error("a part of a list counts for more than itself")
	}
	if m.Matches(list[:1]) {
		t.Error("a label behind the end of the list counts")
	}
	if !slices.Equal(list, pairs("b", "y", "a", "x", "b", "x")) || ms[0] != m || ms[1] != m || ms[2] != nil {
		t.Error("a list has changed")
	}
	list[1].Value, ms[0] = "z", nil
	if m.Matches(list) || !m.Matches(pairs("a", "x")) || m.Show() != `a="x"` {
		t.Error("a list has been kept")
	}
}

// The chapter's examples.
func TestExamples(t *testing.T) {
	m := made(t, match.Like, "job", "a|b")
	if !m.Value("a") || !m.Value("b") || m.Value("ab") {
		t.Error(`Like "a|b"`)
	}
	m = made(t, match.Unequal, "job", "")
	if !m.Matches(pairs("job", "x")) || m.Matches(pairs("jobs", "x")) {
		t.Error(`Unequal ""`)
	}
	const s = `job="x",le!~"1.*"`
	ms, code := match.Read(s)
	if code != api.OK || len(ms) != 2 || match.Show(ms...) != s {
		t.Errorf("Read of %s is %s, %d", s, match.Show(ms...), code)
	}
	for s, code := range map[string]api.Errno{"job": api.ErrForm, `1a="x"`: api.ErrName, `a=~"("`: api.ErrOpen, `a="x",`: api.ErrForm} {
		checkRead(t, s, nil, code)
	}
}
