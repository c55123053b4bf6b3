package labels_test

import (
	"fmt"
	"regexp"
	"slices"
	"sort"
	"strconv"
	"strings"
	"testing"

	"almanac/api"
	"almanac/enc"
	"almanac/labels"
)

// The tests' model holds names and texts against regular expressions, and leaves what a quoted form stands
// for to the library.
var (
	modelName   = regexp.MustCompile(`\A[a-zA-Z_][a-zA-Z0-9_]{0,31}\z`)
	modelQuoted = regexp.MustCompile(`\A"(?:[ !#-\[\]-~]|\\["\\]|\\x(?:[01][0-9a-f]|7f|[89a-f][0-9a-f]))*"`)
)

func modelCheck(label api.Label) api.Errno {
	if !modelName.MatchString(label.Name) {
		return api.ErrName
	}
	if len(label.Value) < 1 || len(label.Value) > 64 {
		return api.ErrValue
	}
	return api.OK
}

func modelMake(list []api.Label) ([]api.Label, api.Errno) {
	if len(list) == 0 {
		return nil, api.ErrEmpty
	}
	if len(list) > 8 {
		return nil, api.ErrMany
	}
	seen := map[string]bool{}
	for _, label := range list {
		if code := modelCheck(label); code != api.OK {
			return nil, code
		}
		if seen[label.Name] {
			return nil, api.ErrTwice
		}
		seen[label.Name] = true
	}
	set := append([]api.Label{}, list...)
	sort.Slice(set, func(i, j int) bool { return set[i].Name < set[j].Name })
	return set, api.OK
}

// modelSet is what Encode tells of a list.
func modelSet(list []api.Label) api.Errno {
	set, code := modelMake(list)
	if code == api.OK && !slices.Equal(set, list) {
		return api.ErrTwice
	}
	return code
}

// modelEncode writes a set, all of whose lengths have one digit.
func modelEncode(set []api.Label) string {
	s := []byte{byte(len(set))}
	for _, label := range set {
		s = append(append(s, byte(len(label.Name))), label.Name...)
		s = append(append(s, byte(len(label.Value))), label.Value...)
	}
	return string(s)
}

func modelDecode(s string, at int) ([]api.Label, int, api.Errno) {
	count, next, code := enc.ReadUint(s, at)
	switch {
	case code != api.OK:
		return nil, 0, code
	case count == 0:
		return nil, 0, api.ErrEmpty
	case count > 8:
		return nil, 0, api.ErrMany
	}
	var set []api.Label
	for len(set) < int(count) {
		var texts [2]string
		for i := range texts {
			if texts[i], next, code = enc.ReadText(s, next); code != api.OK {
				return nil, 0, code
			}
		}
		label := api.Label{Name: texts[0], Value: texts[1]}
		if code := modelCheck(label); code != api.OK {
			return nil, 0, code
		}
		if len(set) > 0 && set[len(set)-1].Name >= label.Name {
			return nil, 0, api.ErrTwice
		}
		set = append(set, label)
	}
	return set, next, api.OK
}

func modelQuote(v string) string {
	var quoted strings.Builder
	for _, b := range []byte(v) {
		switch {
		case b == 34 || b == 92:
			quoted.WriteString("\\" + string(rune(b)))
		case b >= 32 && b <= 126:
			quoted.WriteByte(b)
		default:
			fmt.Fprintf(&quoted, "\\x%02x", b)
		}
	}
	return "\"" + quoted.String() + "\""
}

func modelUnquote(s string, at int) (string, int, api.Errno) {
	if at < 0 || at >= len(s) {
		return "", 0, api.ErrForm
	}
	quoted := modelQuoted.FindString(s[at:])
	v, err := strconv.Unquote(quoted)
	if err != nil {
		return "", 0, api.ErrForm
	}
	return v, at + len(quoted), api.OK
}

func modelShow(set []api.Label) string {
	if modelSet(set) != api.OK {
		return ""
	}
	s := ""
	for _, label := range set {
		s += "," + label.Name + "=" + modelQuote(label.Value)
	}
	return s[1:]
}

// modelRead takes label after label from the front of s, as long as there are any.
func modelRead(s string) ([]api.Label, api.Errno) {
	var list []api.Label
	for {
		name, rest, _ := strings.Cut(s, "=")
		value, size, code := modelUnquote(rest, 0)
		if code != api.OK {
			return nil, api.ErrForm
		}
		list = append(list, api.Label{Name: name, Value: value})
		rest, more := strings.CutPrefix(rest[size:], ",")
		if !more && rest != "" || !more && modelSet(list) != api.OK {
			return nil, api.ErrForm
		}
		if !more {
			return list, api.OK
		}
		s = rest
	}
}

// pairs makes a list of names, each with its value behind it.
func pairs(texts ...string) []api.Label {
	list := []api.Label{}
	for i := 0; i < len(texts); i += 2 {
		list = append(list, api.Label{Name: texts[i], Value: texts[i+1]})
	}
	return list
}

// numbered makes a set of this many labels.
func numbered(count int) []api.Label {
	list := []api.Label{}
	for i := range count {
		list = append(list, api.Label{Name: "n" + string(rune('a'+i)), Value: strconv.Itoa(i)})
	}
	return list
}

// smallLists are all lists of up to this many of these labels, among which are wrong ones.
func smallLists(size int, of []api.Label) [][]api.Label {
	all := [][]api.Label{{}}
	for start := 0; size > 0; size-- {
		end := len(all)
		for _, list := range all[start:end] {
			for _, label := range of {
				all = append(all, append(slices.Clone(list), label))
			}
		}
		start = end
	}
	return all
}

// mixedLabels are good labels and labels with an error of each kind.
func mixedLabels() []api.Label {
	return pairs("a", "x", "a", "y", "b", "x", "B", "\xff\"", "_0", "x", "0a", "x", "", "x", "c", "",
		"d", strings.Repeat("v", 65), strings.Repeat("n", 33), "", "a\x80", "x")
}

// goodSets are sets of few and of many labels, short and long.
func goodSets() [][]api.Label {
	long := numbered(api.MaxLabels)
	for i := range long {
		long[i].Name += strings.Repeat("_", api.MaxName-len(long[i].Name))
		long[i].Value = strings.Repeat("\xfe", api.MaxValue)
	}
	return [][]api.Label{
		pairs("a", "x"), pairs("a", "x", "b", "1"), pairs("a", "\"\xc8"), pairs("A", "1", "_", "=", "a", "a=\"b\",c"),
		pairs("job", "\x00\x1f ~\x7f\x80\xff", "jobs", "\\x00"), numbered(api.MaxLabels), long,
	}
}

// changed calls check with s, with each of its beginnings, and with s less or more one byte, or with another
// one in its place.
func changed(s string, bytes []byte, check func(string)) {
	check(s)
	for i := range len(s) + 1 {
		check(s[:i])
		for _, b := range bytes {
			check(s[:i] + string([]byte{b}) + s[i:])
			if i < len(s) {
				check(s[:i] + string([]byte{b}) + s[i+1:])
			}
		}
		if i < len(s) {
			check(s[:i] + s[i+1:])
		}
	}
}

func allBytes() []byte {
	all := make([]byte, 256)
	for i := range all {
		all[i] = byte(i)
	}
	return all
}

func checkMake(t *testing.T, list []api.Label, want []api.Label, code api.Errno) {
	t.Helper()
	if got, gotCode := labels.Make(list...); !slices.Equal(got, want) || gotCode != code {
		t.Fatalf("Make of %.200q is %.200q, %d, not %.200q, %d", list, got, gotCode, want, code)
	}
}

func checkEncode(t *testing.T, list []api.Label, want string, code api.Errno) {
	t.Helper()
	if got, gotCode := labels.Encode(list); got != want || gotCode != code {
		t.Fatalf("Encode of %.200q is %.200q, %d, not %.200q, %d", list, got, gotCode, want, code)
	}
}

func checkDecode(t *testing.T, s string, at int, want []api.Label, next int, code api.Errno) {
	t.Helper()
	got, gotNext, gotCode := labels.Decode(s, at)
	if !slices.Equal(got, want) || gotNext != next || gotCode != code {
		t.Fatalf("Decode(%.200q, %d) is %.200q, %d, %d, not %.200q, %d, %d", s, at, got, gotNext, gotCode, want, next, code)
	}
}

func checkUnquote(t *testing.T, s string, at int, want string, next int, code api.Errno) {
	t.Helper()
	got, gotNext, gotCode := labels.Unquote(s, at)
	if got != want || gotNext != next || gotCode != code {
		t.Fatalf("Unquote(%.200q, %d) is %.200q, %d, %d, not %.200q, %d, %d", s, at, got, gotNext, gotCode, want, next, code)
	}
}

func checkRead(t *testing.T, s string, want []api.Label, code api.Errno) {
	t.Helper()
	if got, gotCode := labels.Read(s); !slices.Equal(got, want) || gotCode != code {
		t.Fatalf("Read(%.200q) is %.200q, %d, not %.200q, %d", s, got, gotCode, want, code)
	}
}
