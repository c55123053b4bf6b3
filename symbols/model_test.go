package symbols_test

import (
	"fmt"
	"math"
	"regexp"
	"slices"
	"sort"
	"strings"
	"testing"

	"almanac/api"
	"almanac/enc"
	"almanac/labels"
	"almanac/symbols"
)

// The tests' model of a table is the list of its texts. It follows the words of the chapter, and reads by the
// calls of the layers that the chapter names.

var modelName = regexp.MustCompile(`\A[a-zA-Z_][a-zA-Z0-9_]{0,31}\z`)

func modelOf(list []string) []string {
	seen := map[string]bool{}
	texts := []string{}
	for _, text := range list {
		if !seen[text] {
			seen[text] = true
			texts = append(texts, text)
		}
	}
	sort.Strings(texts)
	return texts
}

func modelCollect(sets [][]api.Label) []string {
	var list []string
	for _, set := range sets {
		for _, label := range set {
			list = append(list, label.Name)
			list = append(list, label.Value)
		}
	}
	return modelOf(list)
}

func modelNumber(texts []string, s string) (int, api.Errno) {
	for n, text := range texts {
		if text == s {
			return n, api.OK
		}
	}
	return 0, api.ErrSymbol
}

func modelUint(n int) string {
	if n < 128 {
		return string([]byte{byte(n)})
	}
	return string([]byte{byte(n%128 + 128)}) + modelUint(n/128)
}

func modelEncode(texts []string) string {
	var s strings.Builder
	s.WriteString(modelUint(len(texts)))
	for _, text := range texts {
		s.WriteString(modelUint(len(text)) + text)
	}
	return s.String()
}

func modelDecode(s string, at int) ([]string, int, api.Errno) {
	count, next, code := enc.ReadUint(s, at)
	if code != api.OK {
		return nil, 0, code
	}
	var texts []string
	for uint64(len(texts)) < count {
		var text string
		if text, next, code = enc.ReadText(s, next); code != api.OK {
			return nil, 0, code
		}
		if len(texts) > 0 && strings.Compare(texts[len(texts)-1], text) != -1 {
			return nil, 0, api.ErrOrder
		}
		texts = append(texts, text)
	}
	return texts, next, api.OK
}

func modelPack(texts []string, set []api.Label) (string, api.Errno) {
	if _, code := labels.Encode(set); code != api.OK {
		return "", code
	}
	packed := modelUint(len(set))
	for _, label := range set {
		name, nameCode := modelNumber(texts, label.Name)
		value, valueCode := modelNumber(texts, label.Value)
		if nameCode != api.OK || valueCode != api.OK {
			return "", api.ErrSymbol
		}
		packed += modelUint(name) + modelUint(value)
	}
	return packed, api.OK
}

func modelUnpack(texts []string, s string, at int) ([]api.Label, int, api.Errno) {
	count, next, code := enc.ReadUint(s, at)
	switch {
	case code != api.OK:
		return nil, 0, code
	case count == 0:
		return nil, 0, api.ErrEmpty
	case count > 8:
		return nil, 0, api.ErrMany
	}
	var set []api.Label
	for len(set) < int(count) {
		var pair [2]string
		for i := range pair {
			var n uint64
			if n, next, code = enc.ReadUint(s, next); code != api.OK {
				return nil, 0, code
			}
			if n > math.MaxInt || int(n) >= len(texts) {
				return nil, 0, api.ErrSymbol
			}
			pair[i] = texts[n]
		}
		switch {
		case !modelName.MatchString(pair[0]):
			return nil, 0, api.ErrName
		case len(pair[1]) < 1 || len(pair[1]) > 64:
			return nil, 0, api.ErrValue
		case len(set) > 0 && set[len(set)-1].Name >= pair[0]:
			return nil, 0, api.ErrTwice
		}
		set = append(set, api.Label{Name: pair[0], Value: pair[1]})
	}
	return set, next, api.OK
}

// A sequence is a row of numbers that look mixed and are the same in every run.
type sequence uint64

func (s *sequence) next() uint64 {
	*s ^= *s << 13
	*s ^= *s >> 7
	*s ^= *s << 17
	return uint64(*s)
}

// mixedTexts are this many texts of up to 5 bytes, of few different ones, so that texts begin one another and
// come several times.
func mixedTexts(count int) []string {
	mixed := sequence(5)
	list := make([]string, count)
	for i := range list {
		text := make([]byte, mixed.next()>>20%6)
		for j := range text {
			text[j] = "\x00 09Aaz~\x7f\x80\xc3\xff"[mixed.next()>>20%12]
		}
		list[i] = string(text)
	}
	return list
}

// counted are this many texts in ascending order: n000000, n000001 and so on.
func counted(count int) []string {
	texts := make([]string, count)
	for i := range texts {
		texts[i] = fmt.Sprintf("n%06d", i)
	}
	return texts
}

// pairs makes a list of names, each with its value behind it.
func pairs(texts ...string) []api.Label {
	list := []api.Label{}
	for i := 0; i < len(texts); i += 2 {
		list = append(list, api.Label{Name: texts[i], Value: texts[i+1]})
	}
	return list
}

// lettered makes a set of this many labels: a with A, b with B and so on.
func lettered(count int) []api.Label {
	list := []api.Label{}
	for i := range count {
		list = append(list, api.Label{Name: string(rune('a' + i)), Value: string(rune('A' + i))})
	}
	return list
}

// smallLists are all lists of up to this many of these items.
func smallLists[T any](size int, of []T) [][]T {
	all := [][]T{{}}
	for start := 0; size > 0; size-- {
		end := len(all)
		for _, list := range all[start:end] {
			for _, item := range of {
				all = append(all, append(slices.Clone(list), item))
			}
		}
		start = end
	}
	return all
}

// everyText calls check with every text of up to this many of these bytes.
func everyText(alphabet string, size int, check func(string)) {
	for _, bytes := range smallLists(size, []byte(alphabet)) {
		check(string(bytes))
	}
}

// changed calls check with s, with each of its beginnings, and with s less or more one byte, or with another
// one in its place.
func changed(s string, check func(string)) {
	check(s)
	for i := range len(s) + 1 {
		check(s[:i])
		for b := range 256 {
			check(s[:i] + string([]byte{byte(b)}) + s[i:])
			if i < len(s) {
				check(s[:i] + string([]byte{byte(b)}) + s[i+1:])
			}
		}
		if i < len(s) {
			check(s[:i] + s[i+1:])
		}
	}
}

// farPositions are outside a text of this size.
func farPositions(size int) []int {
	return []int{math.MinInt, math.MinInt + 1, -size - 1, -size - 2, -2, -1, size, size + 1, size + 2, math.MaxInt - 1, math.MaxInt}
}

// neighbours are texts right below and right above this one, and others near it.
func neighbours(text string) []string {
	near := []string{text + "\x00", text + "\x01", text + "\xff", text + text, " " + text}
	if size := len(text); size > 0 {
		head, last := text[:size-1], text[size-1]
		near = append(near, head, head+string([]byte{last - 1}), head+string([]byte{last + 1}), head+string([]byte{last ^ 32}), text[1:])
	}
	return near
}

// checkTable asks everything that a table answers of its texts.
func checkTable(t *testing.T, table *symbols.Table, want []string) {
	t.Helper()
	if table == nil {
		t.Fatalf("the table of %.200q is nil", want)
	}
	if got := table.Len(); got != len(want) {
		t.Fatalf("the table of %.200q has %d texts", want, got)
	}
	for n, text := range want {
		checkText(t, table, n, text, api.OK)
		checkNumber(t, table, text, n, api.OK)
	}
	for _, n := range farPositions(len(want)) {
		checkText(t, table, n, "", api.ErrSymbol)
	}
	if got := table.Encode(); got != modelEncode(want) {
		t.Fatalf("the encoding of %.200q is %.200q", want, got)
	}
}

func checkText(t *testing.T, table *symbols.Table, n int, want string, code api.Errno) {
	t.Helper()
	if got, gotCode := table.Text(n); got != want || gotCode != code {
		t.Fatalf("Text(%d) is %.60q, %d, not %.60q, %d", n, got, gotCode, want, code)
	}
}

func checkNumber(t *testing.T, table *symbols.Table, s string, want int, code api.Errno) {
	t.Helper()
	if got, gotCode := table.Number(s); got != want || gotCode != code {
		t.Fatalf("Number(%.60q) is %d, %d, not %d, %d", s, got, gotCode, want, code)
	}
}

func checkDecode(t *testing.T, s string, at int, want []string, next int, code api.Errno) {
	t.Helper()
	table, gotNext, gotCode := symbols.Decode(s, at)
	if gotNext != next || gotCode != code {
		t.Fatalf("Decode(%.200q, %d) is at %d, %d, not at %d, %d", s, at, gotNext, gotCode, next, code)
	}
	if code == api.OK {
		checkTable(t, table, want)
	} else if table != nil {
		t.Fatalf("Decode(%.200q, %d) gives a table beside the error %d", s, at, code)
	}
}

func checkPack(t *testing.T, table *symbols.Table, set []api.Label, want string, code api.Errno) {
	t.Helper()
	if got, gotCode := table.Pack(set); got != want || gotCode != code {
		t.Fatalf("Pack of %.200q with %.200q is %q, %d, not %q, %d", set, table.Encode(), got, gotCode, want, code)
	}
}

func checkUnpack(t *testing.T, table *symbols.Table, s string, at int, want []api.Label, next int, code api.Errno) {
	t.Helper()
	got, gotNext, gotCode := table.Unpack(s, at)
	if !slices.Equal(got, want) || gotNext != next || gotCode != code {
		t.Fatalf("Unpack(%q, %d) with %.200q is %.200q, %d, %d, not %.200q, %d, %d",
			s, at, table.Encode(), got, gotNext, gotCode, want, next, code)
	}
}
