package match_test

import (
	"math"
	"regexp"
	"slices"
	"strconv"
	"strings"
	"testing"

	"almanac/api"
	"almanac/deriv"
	"almanac/match"
	"almanac/regex"
)

// The tests' model holds names and texts against regular expressions, and leaves what a quoted form stands
// for to the library.
var (
	modelName  = regexp.MustCompile(`\A[a-zA-Z_][a-zA-Z0-9_]{0,31}\z`)
	modelFirst = regexp.MustCompile(`\A([^=!]*)(=~|=|!=|!~)("(?:[ !#-\[\]-~]|\\["\\]|\\x(?:[01][0-9a-f]|7f|[89a-f][0-9a-f]))*")`)
	operators  = []string{"=", "!=", "=~", "!~"}
	kinds      = []match.Kind{match.Equal, match.Unequal, match.Like, match.Unlike}
	// wrongKinds are none of the four.
	wrongKinds = []match.Kind{-1, 4, -2, 5, 255, 256, 1 << 32, math.MinInt, math.MaxInt}
)

// asked is what makes a matcher, and what all that it tells hangs on.
type asked struct {
	kind        match.Kind
	name, value string
}

func (a asked) error() api.Errno {
	if a.kind < 0 || a.kind > 3 {
		return api.ErrKind
	}
	if !modelName.MatchString(a.name) {
		return api.ErrName
	}
	if a.kind >= match.Like {
		_, code := regex.Parse(a.value)
		return code
	}
	if len(a.value) > 64 {
		return api.ErrValue
	}
	return api.OK
}

func (a asked) fits(v string) bool {
	tree, _ := regex.Parse(a.value)
	return []bool{v == a.value, v != a.value, deriv.Match(tree, v), !deriv.Match(tree, v)}[a.kind]
}

func (a asked) text() string { return a.name + operators[a.kind] + quoted(a.value) }

func quoted(v string) string {
	q := []byte{34}
	for _, b := range []byte(v) {
		switch {
		case b == 34 || b == 92:
			q = append(q, 92, b)
		case b >= 32 && b <= 126:
			q = append(q, b)
		default:
			q = append(q, `\x`+strconv.FormatInt(int64(b)+256, 16)[1:]...)
		}
	}
	return string(append(q, 34))
}

func textOf(all []asked) string {
	var texts []string
	for _, a := range all {
		texts = append(texts, a.text())
	}
	return strings.Join(texts, ",")
}

// modelRead takes matcher after matcher from the front of s, as long as there are any.
func modelRead(s string) ([]asked, api.Errno) {
	if s == "" {
		return nil, api.OK
	}
	var all []asked
	for {
		found := modelFirst.FindStringSubmatch(s)
		if found == nil {
			return nil, api.ErrForm
		}
		value, err := strconv.Unquote(found[3])
		if err != nil {
			return nil, api.ErrForm
		}
		a := asked{match.Kind(slices.Index(operators, found[2])), found[1], value}
		if code := a.error(); code != api.OK {
			return nil, code
		}
		all = append(all, a)
		rest := s[len(found[0]):]
		if rest == "" {
			return all, api.OK
		}
		if rest[0] != ',' {
			return nil, api.ErrForm
		}
		s = rest[1:]
	}
}

// values are those that each matcher of these tests is asked for, beside its own and what differs little from it.
var values = []string{"", "a", "b", "ab", "aa", "x", "y", "x\n", "\x00", "\xff", "é", "1", "10", "1.*", "a|b", "[ab]", strings.Repeat("a", 64), strings.Repeat("v", 65), strings.Repeat("ab", 1000)}

func near(value string) []string {
	return append([]string{value, value + "a", "a" + value, value + "\x00", strings.ToUpper(value), value[:len(value)/2]}, values...)
}

// checkMatcher asks the matcher all that it can be asked.
func checkMatcher(t *testing.T, m *match.Matcher, a asked) {
	t.Helper()
	if m == nil {
		t.Fatalf("%.200s is no matcher", a.text())
	}
	if got := m.Name(); got != a.name {
		t.Fatalf("the name of %.200s is %.200q", a.text(), got)
	}
	if got := m.Show(); got != a.text() {
		t.Fatalf("%.200s is shown as %.200q", a.text(), got)
	}
	for _, v := range near(a.value) {
		want := a.fits(v)
		if got := m.Value(v); got != want {
			t.Fatalf("%.200s matches %.200q: %t", a.text(), v, got)
		}
		if got := m.Matches([]api.Label{{Name: a.name + "a", Value: "\x01"}, {Name: a.name, Value: v}}); got != want {
			t.Fatalf("%.200s matches the list with %.200q: %t", a.text(), v, got)
		}
	}
}

// checkNew makes a matcher, and checks it or the error.
func checkNew(t *testing.T, kind match.Kind, name, value string, want api.Errno) {
	t.Helper()
	m, code := match.New(kind, name, value)
	if code != want {
		t.Fatalf("New(%d, %.200q, %.200q) is %d, not %d", kind, name, value, code, want)
	}
	if code == api.OK {
		checkMatcher(t, m, asked{kind, name, value})
	} else if m != nil {
		t.Fatalf("New(%d, %.200q, %.200q) returns a matcher with its error", kind, name, value)
	}
}

func made(t *testing.T, kind match.Kind, name, value string) *match.Matcher {
	t.Helper()
	m, code := match.New(kind, name, value)
	if code != api.OK {
		t.Fatalf("New(%d, %q, %q) is %d", kind, name, value, code)
	}
	return m
}

func makeAll(t *testing.T, all []asked) []*match.Matcher {
	t.Helper()
	var ms []*match.Matcher
	for _, a := range all {
		ms = append(ms, made(t, a.kind, a.name, a.value))
	}
	return ms
}

func checkRead(t *testing.T, s string, want []asked, code api.Errno) {
	t.Helper()
	ms, gotCode := match.Read(s)
	if gotCode != code || len(ms) != len(want) {
		t.Fatalf("Read(%.200q) is %d matchers, %d, not %d, %d", s, len(ms), gotCode, len(want), code)
	}
	for i, m := range ms {
		if m == nil || m.Name() != want[i].name || m.Show() != want[i].text() {
			t.Fatalf("Read(%.200q): the matcher at %d is shown as %.200q", s, i, m.Show())
		}
		for _, v := range near(want[i].value)[:8] {
			if m.Value(v) != want[i].fits(v) {
				t.Fatalf("Read(%.200q): the matcher at %d matches %.200q: %t", s, i, v, m.Value(v))
			}
		}
	}
}

// pairs makes a list of names, each with its value behind it.
func pairs(texts ...string) []api.Label {
	list := []api.Label{}
	for i := 0; i < len(texts); i += 2 {
		list = append(list, api.Label{Name: texts[i], Value: texts[i+1]})
	}
	return list
}

// everyList calls check with each string of up to this many of these parts.
func everyList(parts []string, most int, check func(string)) {
	level := []string{""}
	for range most + 1 {
		var longer []string
		for _, s := range level {
			check(s)
			for _, part := range parts {
				longer = append(longer, s+part)
			}
		}
		level = longer
	}
}
