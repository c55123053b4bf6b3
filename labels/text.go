package labels

import (
	"strings"

	"almanac/api"
)

// hexDigits are the digits of a byte that is written by its number.
const hexDigits = "0123456789abcdef"

// Quote: a value in quotation marks.
func Quote(v string) string {
	quoted := []byte{'"'}
	for i := range len(v) {
		switch c := v[i]; {
		case c == '"', c == '\\':
			quoted = append(quoted, '\\')
			fallthrough
		case isPrintable(c):
			quoted = append(quoted, c)
		default:
			quoted = append(quoted, '\\', 'x', hexDigits[c>>4], hexDigits[c&15])
		}
	}
	return string(append(quoted, '"'))
}

// Unquote: the value whose quotation stands at the place at, and the place behind it.
func Unquote(s string, at int) (string, int, api.Errno) {
	if at < 0 || at >= len(s) || s[at] != '"' {
		return "", 0, api.ErrForm
	}
	var v []byte
	for next := at + 1; next < len(s); {
		if s[next] == '"' {
			return string(v), next + 1, api.OK
		}
		c, size := unquoteByte(s[next:])
		if size == 0 {
			return "", 0, api.ErrForm
		}
		v = append(v, c)
		next += size
	}
	return "", 0, api.ErrForm
}

// unquoteByte gives the byte with whose quoted form s begins, and the size of that form; the size is 0 if
// there is none. s is not empty, and does not begin with a quotation mark.
func unquoteByte(s string) (byte, int) {
	switch {
	case !isPrintable(s[0]):
	case s[0] != '\\':
		return s[0], 1
	case len(s) >= 2 && (s[1] == '"' || s[1] == '\\'):
		return s[1], 2
	case len(s) >= 4 && s[1] == 'x':
		high, low := strings.IndexByte(hexDigits, s[2]), strings.IndexByte(hexDigits, s[3])
		// Of a byte that is printable its number is not the form.
		if c := byte(high<<4 | low); high >= 0 && low >= 0 && !isPrintable(c) {
			return c, 4
		}
	}
	return 0, 0
}

func isPrintable(c byte) bool { return c >= ' ' && c <= '~' }

// Show: the set as a text.
func Show(set []api.Label) string {
	if !Valid(set) {
		return ""
	}
	parts := make([]string, 0, len(set))
	for _, label := range set {
		parts = append(parts, label.Name+"="+Quote(label.Value))
	}
	return strings.Join(parts, ",")
}

// Read: the set that the text shows.
func Read(s string) ([]api.Label, api.Errno) {
	set, ok := readList(s)
	if !ok || !Valid(set) {
		return nil, api.ErrForm
	}
	return set, api.OK
}

// readList reads labels with commas between them up to the end of s; no more than a set may have, so that
// a long text is not read in vain.
func readList(s string) ([]api.Label, bool) {
	var list []api.Label
	for at := 0; len(list) < api.MaxLabels; {
		label, next, ok := readShown(s, at)
		if !ok {
			return nil, false
		}
		list = append(list, label)
		if next == len(s) {
			return list, true
		}
		if s[next] != ',' {
			return nil, false
		}
		at = next + 1
	}
	return nil, false
}

// readShown reads a label, whose name and value are not checked, and gives the position after it.
func readShown(s string, at int) (api.Label, int, bool) {
	size := strings.IndexByte(s[at:], '=')
	if size < 0 {
		return api.Label{}, 0, false
	}
	equals := at + size
	value, next, code := Unquote(s, equals+1)
	return api.Label{Name: s[at:equals], Value: value}, next, code == api.OK
}
