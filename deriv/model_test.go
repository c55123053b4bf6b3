package deriv_test

import (
	"fmt"
	"regexp"
	"strings"
	"testing"

	"almanac/api"
	"almanac/deriv"
	"almanac/regex"
)

// texts is a set of strings: those of up to so many letters that a tree matches.
type texts map[string]bool

// modelTexts follows the chapter's words kind by kind, with sets of whole strings; letters are all bytes that
// these have.
func modelTexts(n *regex.Node, letters string, most int, known map[string]texts) texts {
	shown := regex.Show(n)
	if found, ok := known[shown]; ok {
		return found
	}
	kid := func(i int) texts { return modelTexts(n.Kids[i], letters, most, known) }
	found := texts{}
	switch n.Kind {
	case regex.Empty:
		found[""] = true
	case regex.Class:
		for i := range len(letters) {
			if has(n.Set, letters[i]) {
				found[letters[i:i+1]] = true
			}
		}
	case regex.Cat:
		found = parted(kid(0), kid(1), most)
	case regex.Alt:
		found = united(kid(0), kid(1))
	case regex.Star:
		found = rounds(kid(0), most)
	case regex.Plus:
		found = parted(kid(0), rounds(kid(0), most), most)
	case regex.Quest:
		found = united(texts{"": true}, kid(0))
	}
	known[shown] = found
	return found
}

func has(s regex.Set, b byte) bool { return s[b/64]&(uint64(1)<<(b%64)) != 0 }

func united(a, b texts) texts {
	all := texts{}
	for _, set := range []texts{a, b} {
		for s := range set {
			all[s] = true
		}
	}
	return all
}

// parted gives the strings with a first part of one set and a second one of the other.
func parted(first, second texts, most int) texts {
	all := texts{}
	for a := range first {
		for b := range second {
			if len(a)+len(b) <= most {
				all[a+b] = true
			}
		}
	}
	return all
}

// rounds gives the strings with zero or more parts of the set.
func rounds(set texts, most int) texts {
	all := texts{"": true}
	for {
		more := united(all, parted(all, set, most))
		if len(more) == len(all) {
			return all
		}
		all = more
	}
}

// expression writes a tree for the library's package regexp, on runes with the bytes' numbers.
func expression(n *regex.Node) string {
	switch n.Kind {
	case regex.Empty:
		return "(?:)"
	case regex.Class:
		var set strings.Builder
		for b := range 256 {
			if has(n.Set, byte(b)) {
				fmt.Fprintf(&set, `\x{%x}`, b)
			}
		}
		return "[" + set.String() + "]"
	case regex.Cat:
		return expression(n.Kids[0]) + expression(n.Kids[1])
	case regex.Alt:
		return "(?:" + expression(n.Kids[0]) + "|" + expression(n.Kids[1]) + ")"
	}
	sign := map[regex.Kind]string{regex.Star: "*", regex.Plus: "+", regex.Quest: "?"}[n.Kind]
	return "(?:" + expression(n.Kids[0]) + ")" + sign
}

// beginning writes an expression for the beginnings of what a tree matches.
func beginning(n *regex.Node) string {
	switch n.Kind {
	case regex.Empty:
		return "(?:)"
	case regex.Class:
		return expression(n) + "?"
	case regex.Cat:
		return "(?:" + beginning(n.Kids[0]) + "|" + expression(n.Kids[0]) + beginning(n.Kids[1]) + ")"
	case regex.Alt:
		return "(?:" + beginning(n.Kids[0]) + "|" + beginning(n.Kids[1]) + ")"
	case regex.Quest:
		return beginning(n.Kids[0])
	}
	return "(?:" + expression(n.Kids[0]) + ")*" + beginning(n.Kids[0])
}

// wholly makes an expression that matches whole strings.
func wholly(t *testing.T, expression string) *regexp.Regexp {
	t.Helper()
	e, err := regexp.Compile(`\A(?:` + expression + `)\z`)
	if err != nil {
		t.Fatal(err)
	}
	return e
}

// runes gives a string whose runes have the numbers of the bytes.
func runes(s string) string {
	all := make([]rune, len(s))
	for i := range all {
		all[i] = rune(s[i])
	}
	return string(all)
}

func parse(t *testing.T, pattern string) *regex.Node {
	t.Helper()
	tree, code := regex.Parse(pattern)
	if code != api.OK {
		t.Fatalf("Parse(%q) is %d", pattern, code)
	}
	return tree
}

func checkMatch(t *testing.T, pattern string, n *regex.Node, s string, want bool) {
	t.Helper()
	if got := deriv.Match(n, s); got != want {
		t.Fatalf("Match(%q, %.100q) is %v", pattern, s, got)
	}
	if s == "" && deriv.Nullable(n) != want {
		t.Fatalf("Nullable(%q) is %v", pattern, !want)
	}
}

func checkBegins(t *testing.T, pattern string, n *regex.Node, s string, want bool) {
	t.Helper()
	if got := deriv.Begins(n, s); got != want {
		t.Fatalf("Begins(%q, %.100q) is %v", pattern, s, got)
	}
}

// everyText calls check with each text of up to this many of these letters.
func everyText(letters string, most int, check func(string)) {
	var extend func(s string)
	extend = func(s string) {
		check(s)
		if len(s) == most {
			return
		}
		for i := range len(letters) {
			extend(s + letters[i:i+1])
		}
	}
	extend("")
}
