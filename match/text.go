package match

import (
	"strings"

	"almanac/api"
	"almanac/labels"
)

// operator: how a kind is written.
func (k Kind) operator() string {
	switch k {
	case Equal:
		return "="
	case Unequal:
		return "!="
	case Like:
		return "=~"
	}
	return "!~"
}

// Show: the matcher as a text.
func (m *Matcher) Show() string {
	if m == nil {
		return ""
	}
	return m.name + m.kind.operator() + labels.Quote(m.value)
}

// Show: the matchers as a text.
func Show(ms ...*Matcher) string {
	texts := make([]string, 0, len(ms))
	for _, m := range ms {
		if m == nil {
			return ""
		}
		texts = append(texts, m.Show())
	}
	return strings.Join(texts, ",")
}

// Read: the matchers that the text shows.
func Read(s string) ([]*Matcher, api.Errno) {
	if s == "" {
		return nil, api.OK
	}
	var ms []*Matcher
	for at := 0; ; {
		m, next, code := readMatcher(s, at)
		if code != api.OK {
			return nil, code
		}
		ms = append(ms, m)
		if next == len(s) {
			return ms, api.OK
		}
		if s[next] != ',' {
			return nil, api.ErrForm
		}
		at = next + 1
	}
}

// readMatcher reads the matcher at a position, and gives the position after it. What New refuses is told
// last, when the whole of it has been read.
func readMatcher(s string, at int) (*Matcher, int, api.Errno) {
	size := strings.IndexAny(s[at:], "=!")
	if size < 0 {
		return nil, 0, api.ErrForm
	}
	sign := at + size
	kind, ok := kindOf(s[sign:])
	if !ok {
		return nil, 0, api.ErrForm
	}
	value, next, code := labels.Unquote(s, sign+len(kind.operator()))
	if code != api.OK {
		return nil, 0, code
	}
	m, code := New(kind, s[at:sign], value)
	if code != api.OK {
		return nil, 0, code
	}
	return m, next, api.OK
}

// kindOf: the kind with whose operator the text begins.
func kindOf(s string) (Kind, bool) {
	// The last one comes first, since = is the beginning of =~, too.
	for kind := Unlike; kind >= Equal; kind-- {
		if strings.HasPrefix(s, kind.operator()) {
			return kind, true
		}
	}
	return 0, false
}
