package match_test

import (
	"slices"
	"strings"
	"testing"

	"almanac/api"
	"almanac/match"
)

// good are matchers of all kinds, with names and values short and long.
func good() []asked {
	var all []asked
	long := strings.Repeat("n", api.MaxName)
	for _, kind := range kinds {
		for _, name := range []string{"a", "job", "_0", long} {
			for _, value := range []string{"", "x", "a|b", "1.*", `a="b",c`, "=~!", "\"\xc8", "\x00\n\x7f\x80\xff", "\\\\", strings.Repeat("\xfe", 64)} {
				all = append(all, asked{kind, name, value})
			}
		}
	}
	return all
}

// P8.2, P8.4: the texts of matchers, and of lists of them.
func TestShow(t *testing.T) {
	for want, a := range map[string]asked{
		`a="x"`: {match.Equal, "a", "x"}, `a!="x"`: {match.Unequal, "a", "x"}, `a=~"x"`: {match.Like, "a", "x"}, `a!~"x"`: {match.Unlike, "a", "x"},
		`job=""`: {match.Equal, "job", ""}, `_=~"\"\\\\\x0a\xff ~"`: {match.Like, "_", "\"\\\\\n\xff ~"}, `a!="\xc3\xa9"`: {match.Unequal, "a", "é"},
	} {
		if got := made(t, a.kind, a.name, a.value).Show(); got != want {
			t.Errorf("%s is shown as %s", want, got)
		}
	}
	all := good()
	ms := makeAll(t, all)
	for i, a := range all {
		if got := ms[i].Show(); got != a.text() {
			t.Fatalf("%s is shown as %s", a.text(), got)
		}
		if got, want := match.Show(ms[i]), a.text(); got != want {
			t.Fatalf("alone %s is shown as %s", want, got)
		}
		if got, want := match.Show(ms[:i]...), textOf(all[:i]); got != want {
			t.Fatalf("%d matchers are shown as %.200s", i, got)
		}
	}
	slices.Reverse(all)
	slices.Reverse(ms)
	if got := match.Show(ms...); got != textOf(all) {
		t.Error("the order of the matchers does not count")
	}
}

// P8.4: of no matchers, and of one that is nil.
func TestShowOfNone(t *testing.T) {
	if match.Show() != "" || match.Show([]*match.Matcher{}...) != "" || match.Show(nil) != "" || match.Show(nil, nil) != "" {
		t.Error("no matchers are shown as something")
	}
	m := made(t, match.Equal, "a", "x")
	for i := range 4 {
		ms := []*match.Matcher{m, m, m, m}
		ms[i] = nil
		if got := match.Show(ms...); got != "" {
			t.Errorf("with a nil matcher at %d %q is shown", i, got)
		}
	}
}

// P8.4: what is shown is read again.
func TestReadOfShown(t *testing.T) {
	checkRead(t, "", nil, api.OK)
	all := good()
	for i, a := range all {
		checkRead(t, a.text(), []asked{a}, api.OK)
		some := []asked{a, all[(i*7+3)%len(all)], a}
		checkRead(t, textOf(some), some, api.OK)
	}
	checkRead(t, textOf(all), all, api.OK)
	ms, _ := match.Read(textOf(all))
	for i, m := range ms {
		checkMatcher(t, m, all[i])
	}
	if got := match.Show(ms...); got != textOf(all) {
		t.Errorf("what was read is shown as %.200q", got)
	}
}

// P8.4: what is no name, no operator, no quoted form, or is followed by something else.
func TestReadErrors(t *testing.T) {
	for _, c := range []struct {
		code  api.Errno
		texts []string
	}{
		{api.ErrForm, []string{
			" ", ",", "a", "job", `"`, `"x"`, `a"x"`, "a,b", "\x00", "\xff", strings.Repeat("a", 100000),
			"=", "!", "~", "a=", "a!", "a!=", "a=~", "a!~", "a~", `a~"x"`, `a!"x"`, `a!!"x"`, `a! ="x"`, `a!x`, `a!"`, `a!,`,
			`a=="x"`, `a=!"x"`, `a!=="x"`, `a!=~"x"`, `a=~~"x"`, `a=~="x"`, `a!~~"x"`, `a!~="x"`, `a= ~"x"`, `a= "x"`, `a=~ "x"`,
			`a=x`, `a='x'`, `a="`, `a="x`, `a=x"`, `a="x\"`, `a="\x41"`, `a="\xFF"`, `a="\n"`, "a=\"\n\"", "a=\"\xff\"", `a=~"x`, `1a="x`, `="x`, `1a!"x"`, `1a`,
			`a="x" `, `a="x"x`, `a="x""`, `a="x"=`, `a="x";b="y"`, `a="x"b="y"`, `a="x" ,b="y"`, `a="x"!`, `a=~"x"~`, `a=~"x",`, `a="x",,`, `a="x",b`, `a="x",b=`, `a="x",b="`, `a="x",b="y",`,
		}},
		{api.ErrName, []string{
			`="x"`, `!="x"`, `=~"("`, `!~""`, `1a="x"`, `1a="x"x`, `1a="x",`, `1a=~"("`, ` a="x"`, `a ="x"`, `a-b="x"`, `a~="x"`, `{a="x"}`, `,a="x"`, `"a"="x"`, "\xc3\xa9=\"x\"", "a\n=\"x\"", "\x00!=\"x\"",
			strings.Repeat("n", 33) + `="x"`, strings.Repeat("n", 100000) + `!~"x"`, `1a="` + strings.Repeat("v", 65) + `"`,
			`a="x",1b="y"`, `a="x", b="y"`, `a="x",,b="y"`, `a="x",="y"`, `a="x",b ="y"`, `a="x",b="y",c c="z",d`,
		}},
		{api.ErrValue, []string{`a="` + strings.Repeat("v", 65) + `"`, `a!="` + strings.Repeat("v", 65) + `"x`, `a="` + strings.Repeat(`\xff`, 65) + `",`, `a="x",b="` + strings.Repeat("v", 100000) + `"`}},
		{api.ErrPattern, []string{`a=~"` + strings.Repeat("v", 65) + `"`, `a!~"` + strings.Repeat("(", 65) + `"x`}},
		{api.ErrOpen, []string{`a=~"("`, `a!~"(a"x`, `a="x",b=~"(",1c="y"`, `a="(",b=~"(",c=`}},
		{api.ErrClose, []string{`a=~")"`, `a!~"a)",`, `a=~")",b=~"("`}},
		{api.ErrClass, []string{`a=~"[]"`, `a!~"[b-a]"`}},
		{api.ErrRepeat, []string{`a=~"*"`, `a!~"a|+"`}},
		{api.ErrEscape, []string{`a=~"\\"`, `a!~"[\\"`}},
		{api.ErrNest, []string{`a=~"` + strings.Repeat("(", 17) + `"`}},
	} {
		for _, s := range c.texts {
			checkRead(t, s, nil, c.code)
			checkRead(t, `z!="",`+s, nil, c.code)
		}
	}
}

// P8.4: signs of operators and commas in a value are its bytes; each escape is one of them.
func TestReadOfValues(t *testing.T) {
	for s, want := range map[string][]asked{
		`a="=~!,"`:              {{match.Equal, "a", "=~!,"}},
		`a=~"b=\"x\",c",d!="~"`: {{match.Like, "a", `b="x",c`}, {match.Unequal, "d", "~"}},
		`a!~"\\.\x00\xff"`:      {{match.Unlike, "a", "\\.\x00\xff"}},
		`a="",a="",a=~""`:       {{match.Equal, "a", ""}, {match.Equal, "a", ""}, {match.Like, "a", ""}},
		`b="x",a="x",b!="x"`:    {{match.Equal, "b", "x"}, {match.Equal, "a", "x"}, {match.Unequal, "b", "x"}},
		`a="` + strings.Repeat(`\xff`, 64) + `",a=~"` + strings.Repeat(`\"`, 64) + `"`: {{match.Equal, "a", strings.Repeat("\xff", 64)}, {match.Like, "a", strings.Repeat(`"`, 64)}},
		`a="` + strings.Repeat("(", 17) + `"`:                                          {{match.Equal, "a", strings.Repeat("(", 17)}},
	} {
		checkRead(t, s, want, api.OK)
	}
}

// P8.4: all short texts as the model, byte by byte and part by part.
func TestReadOfEveryShortText(t *testing.T) {
	read := 0
	check := func(s string) {
		want, code := modelRead(s)
		checkRead(t, s, want, code)
		if code == api.OK {
			read++
			if got := textOf(want); got != s {
				t.Fatalf("%q is read as %q", s, got)
			}
		}
	}
	everyList([]string{"a", "1", "=", "!", "~", `"`, ","}, 6, check)
	everyList([]string{"a", "=", "!", "~", `"x"`, `"("`, ","}, 6, check)
	everyList([]string{"a", "1", "=", "!~", `"("`, ","}, 7, check)
	if read < 100 {
		t.Errorf("%d texts are read", read)
	}
}

// P8.4: texts of matchers with a byte more, less, or another one.
func TestReadOfChangedTexts(t *testing.T) {
	check := func(s string) {
		want, code := modelRead(s)
		checkRead(t, s, want, code)
	}
	for _, s := range []string{`job="x",le!~"1.*"`, `a!="\"\x80",_0=~"(a|b)*[^x]"`} {
		for i := range len(s) {
			check(s[:i])
			check(s[:i] + s[i+1:])
			for b := range 256 {
				c := string([]byte{byte(b)})
				check(s[:i] + c + s[i:])
				check(s[:i] + c + s[i+1:])
				check(s + c)
			}
		}
	}
}

// P8.4, P1: many matchers, and an error behind all of them.
func TestReadOfManyMatchers(t *testing.T) {
	const count = 20000
	s := strings.Repeat(`a="x",b=~"x*",`, count/2)
	ms, code := match.Read(s[:len(s)-1])
	if code != api.OK || len(ms) != count || match.Show(ms...) != s[:len(s)-1] {
		t.Fatalf("%d matchers are read, %d", len(ms), code)
	}
	checkRead(t, s, nil, api.ErrForm)
	checkRead(t, s+`1="x"`, nil, api.ErrName)
	checkRead(t, strings.Repeat("=", 1000000), nil, api.ErrForm)
	checkRead(t, strings.Repeat(",", 1000000)+`=""`, nil, api.ErrName)
	checkRead(t, `a="`+strings.Repeat(`\"`, 1000000), nil, api.ErrForm)
}

// P2, rule 4: what is read is new each time, and so is each matcher of it.
func TestReadGivesNewMatchers(t *testing.T) {
	const s = `a="x",a="x",a="x"`
	first, _ := match.Read(s)
	second, _ := match.Read(s)
	for i := range first {
		if slices.Contains(second, first[i]) || slices.Index(first, first[i]) != i {
			t.Errorf("the matcher at %d is also another one", i)
		}
	}
	first[0] = nil
	if match.Show(second...) != s {
		t.Error("two lists share their memory")
	}
}
