package regex_test

import (
	"fmt"
	"regexp"
	"slices"
	"strings"
	"testing"

	"almanac/api"
	"almanac/regex"
)

// The tests' model cuts a pattern into tokens (a whole class is one) by regular expressions of the library,
// takes the first token with an error, and cuts tokens at the last branch and at the last piece, as the
// chapter's words do. It works on runes with the bytes' numbers, so that those expressions take each alone.
const modelLetter = `(?:\\(?s:.)|[^\]\\])`

var (
	modelToken   = regexp.MustCompile(`\[\^?` + modelLetter + `*\]|\[(?s:.*)|\\(?s:.)|(?s:.)`)
	modelEnded   = regexp.MustCompile(`\A\[(\^?)(` + modelLetter + `*)\]\z`)
	modelEscaped = regexp.MustCompile(`\A\[` + modelLetter + `*\\\z`)
	modelItem    = regexp.MustCompile(`(` + modelLetter + `)-(` + modelLetter + `)|` + modelLetter)
)

// bytesSet is a set of bytes as the tests write it.
type bytesSet [256]bool

// modelParse gives the text of a pattern's tree, or its error.
func modelParse(pattern string) (string, api.Errno) {
	if len(pattern) > 64 {
		return "", api.ErrPattern
	}
	runes := make([]rune, len(pattern))
	for i := range runes {
		runes[i] = rune(pattern[i])
	}
	tokens := modelToken.FindAllString(string(runes), -1)
	if code := modelCheck(tokens); code != api.OK {
		return "", code
	}
	return modelTree(tokens), api.OK
}

func modelCheck(tokens []string) api.Errno {
	open := 0
	for i, token := range tokens {
		switch token[0] {
		case '[':
			if code := modelClass(token); code != api.OK {
				return code
			}
		case '\\':
			if token == `\` {
				return api.ErrEscape
			}
		case '*', '+', '?':
			if i == 0 || tokens[i-1] == "(" || tokens[i-1] == "|" {
				return api.ErrRepeat
			}
		case '(':
			if open++; open > 16 {
				return api.ErrNest
			}
		case ')':
			if open--; open < 0 {
				return api.ErrClose
			}
		}
	}
	if open > 0 {
		return api.ErrOpen
	}
	return api.OK
}

func modelClass(token string) api.Errno {
	parts := modelEnded.FindStringSubmatch(token)
	switch {
	case parts == nil && modelEscaped.MatchString(token):
		return api.ErrEscape
	case parts == nil || parts[2] == "":
		return api.ErrClass
	}
	for _, item := range modelItem.FindAllStringSubmatch(parts[2], -1) {
		if item[1] != "" && modelByte(item[2]) < modelByte(item[1]) {
			return api.ErrClass
		}
	}
	if modelSet(token) == (bytesSet{}) {
		return api.ErrClass
	}
	return api.OK
}

// modelByte gives the byte of a letter.
func modelByte(letter string) byte {
	runes := []rune(letter)
	return byte(runes[len(runes)-1])
}

// modelSet gives the bytes that an atom's token represents.
func modelSet(token string) bytesSet {
	var set bytesSet
	switch token[0] {
	case '.':
		for b := range set {
			set[b] = true
		}
		return set
	case '[':
	default:
		set[modelByte(token)] = true
		return set
	}
	parts := modelEnded.FindStringSubmatch(token)
	for _, item := range modelItem.FindAllStringSubmatch(parts[2], -1) {
		from, to := modelByte(item[0]), modelByte(item[0])
		if item[1] != "" {
			from, to = modelByte(item[1]), modelByte(item[2])
		}
		for b := range set {
			set[b] = set[b] || b >= int(from) && b <= int(to)
		}
	}
	for b := range set {
		set[b] = set[b] != (parts[1] == "^")
	}
	return set
}

// modelTree cuts at the last bar that is in no bracket.
func modelTree(tokens []string) string {
	open := 0
	for i, token := range slices.Backward(tokens) {
		switch token {
		case ")":
			open++
		case "(":
			open--
		case "|":
			if open == 0 {
				return "(" + modelTree(tokens[:i]) + "|" + modelBranch(tokens[i+1:]) + ")"
			}
		}
	}
	return modelBranch(tokens)
}

// modelBranch cuts ahead of the last piece.
func modelBranch(tokens []string) string {
	if len(tokens) == 0 {
		return "e"
	}
	start := len(tokens) - 1
	for strings.Contains("*+?", tokens[start]) {
		start--
	}
	for open := 0; ; start-- {
		switch tokens[start] {
		case ")":
			open++
		case "(":
			open--
		}
		if open == 0 {
			break
		}
	}
	if start == 0 {
		return modelPiece(tokens)
	}
	return "(" + modelBranch(tokens[:start]) + modelPiece(tokens[start:]) + ")"
}

func modelPiece(tokens []string) string {
	last := len(tokens) - 1
	switch {
	case last > 0 && tokens[last] != ")":
		return modelPiece(tokens[:last]) + tokens[last]
	case last > 0:
		return modelTree(tokens[1:last])
	}
	return textOfSet(modelSet(tokens[0]))
}

func textOfSet(set bytesSet) string {
	var text strings.Builder
	text.WriteString("[")
	for b := range 256 {
		if set[b] && (b == 0 || !set[b-1]) {
			if text.Len() > 1 {
				text.WriteString(",")
			}
			fmt.Fprintf(&text, "%02x-", b)
		}
		if set[b] && (b == 255 || !set[b+1]) {
			fmt.Fprintf(&text, "%02x", b)
		}
	}
	return text.String() + "]"
}

// bitsOf reads a set bit by bit.
func bitsOf(s regex.Set) bytesSet {
	var set bytesSet
	for b := range set {
		set[b] = s[b/64]&(uint64(1)<<(b%64)) != 0
	}
	return set
}

// textOf writes a tree without a call of the layer, and checks that each node has what its kind asks for.
func textOf(t *testing.T, n *regex.Node) string {
	t.Helper()
	kids := []int{regex.Empty: 0, regex.Class: 0, regex.Cat: 2, regex.Alt: 2, regex.Star: 1, regex.Plus: 1, regex.Quest: 1}
	if n == nil || n.Kind < regex.Empty || n.Kind > regex.Quest || len(n.Kids) != kids[n.Kind] {
		t.Fatalf("a node is %+v", n)
	}
	if (n.Set == regex.Set{}) != (n.Kind != regex.Class) {
		t.Fatalf("the set of a node of kind %d is %x", n.Kind, n.Set)
	}
	var texts []any
	for _, kid := range n.Kids {
		texts = append(texts, textOf(t, kid))
	}
	switch n.Kind {
	case regex.Empty:
		return "e"
	case regex.Class:
		return textOfSet(bitsOf(n.Set))
	}
	form := []string{regex.Cat: "(%s%s)", regex.Alt: "(%s|%s)", regex.Star: "%s*", regex.Plus: "%s+", regex.Quest: "%s?"}
	return fmt.Sprintf(form[n.Kind], texts...)
}

// single is the text of the class of one byte.
func single(b byte) string { return fmt.Sprintf("[%02x-%02x]", b, b) }

// spelled gives a tree's text, in which A, B and C stand for the classes of these letters, and a point for
// the class of all bytes.
func spelled(short string) string {
	return strings.NewReplacer("A", single('a'), "B", single('b'), "C", single('c'), ".", "[00-ff]").Replace(short)
}

// checkTree checks a tree against a text that is written as spelled takes it.
func checkTree(t *testing.T, pattern, short string) {
	t.Helper()
	checkText(t, pattern, spelled(short))
}

// checkText checks both the tree and what Show tells of it.
func checkText(t *testing.T, pattern, want string) {
	t.Helper()
	tree, code := regex.Parse(pattern)
	if code != api.OK || tree == nil {
		t.Fatalf("Parse(%q) is %v, %d", pattern, tree, code)
	}
	if got := textOf(t, tree); got != want {
		t.Fatalf("the tree of %q is %s, not %s", pattern, got, want)
	}
	if got := regex.Show(tree); got != want {
		t.Fatalf("the tree of %q is shown as %s, not %s", pattern, got, want)
	}
}

func checkError(t *testing.T, pattern string, want api.Errno) {
	t.Helper()
	if tree, code := regex.Parse(pattern); tree != nil || code != want {
		t.Fatalf("Parse(%.200q) is %v, %d, not %d", pattern, tree, code, want)
	}
}

// checkAsTheModel gives the error, so that a test can tell which ones it has met.
func checkAsTheModel(t *testing.T, pattern string) api.Errno {
	t.Helper()
	want, code := modelParse(pattern)
	if code != api.OK {
		checkError(t, pattern, code)
		return code
	}
	checkText(t, pattern, want)
	return code
}

// everyText calls check with each text of up to this many of these letters.
func everyText(letters string, most int, check func(string)) {
	var extend func(s string)
	extend = func(s string) {
		check(s)
		if len(s) == most {
			return
		}
		for i := range len(letters) {
			extend(s + letters[i:i+1])
		}
	}
	extend("")
}
