package deriv_test

import (
	"math/rand/v2"
	"reflect"
	"strings"
	"testing"

	"almanac/api"
	"almanac/deriv"
	"almanac/regex"
)

// P7.1: each kind of tree, with children that match the empty string and ones that do not.
func TestNullable(t *testing.T) {
	for _, pattern := range []string{
		"", "()", "a*", "a?", "()*", "()+", "()?", "(a*)+", "(a?)+", "(|a)+", "(a|)+", "a*b*", "a?b*c?", "()a*", "a*()", "()()",
		"|", "|a", "a|", "a||b", "a*|b", "a|b*", "(a?b?)*", "(ab)*", "(a|b)*", "(ab)?", "a+?", "a+*", "a*+", "a?+", "((a*)*)*", "(a+b+)*(c|d?)", "[^a]*", ".*", ".?",
	} {
		if !deriv.Nullable(parse(t, pattern)) {
			t.Errorf("Nullable(%q) is false", pattern)
		}
	}
	for _, pattern := range []string{
		"a", ".", "[^a]", "\x00", "a+", "(ab)+", "(a|b)+", "a++", "(a+)+", "ab", "a*b", "ab*", "a?b", "ab?", "a*b*c", "ab*c*", "a*bc*", "()a", "a()",
		"a|b", "a|b|c", "a+|b", "(a|b)c*", "(a*|b)c", "a*(b|c)", "(a*b)+", "(ab*)+", "(a?b)+c*",
	} {
		if deriv.Nullable(parse(t, pattern)) {
			t.Errorf("Nullable(%q) is true", pattern)
		}
	}
}

// P7.1 to P7.3: nil matches nothing; a node without anything is Empty.
func TestNilAndZero(t *testing.T) {
	for _, s := range []string{"", "a", "\x00", strings.Repeat("ab", 5000)} {
		if deriv.Nullable(nil) || deriv.Match(nil, s) || deriv.Begins(nil, s) {
			t.Errorf("nil matches %.20q", s)
		}
	}
	zero := &regex.Node{}
	if !deriv.Nullable(zero) || !deriv.Match(zero, "") || !deriv.Begins(zero, "") || deriv.Match(zero, "a") || deriv.Begins(zero, "a") {
		t.Error("a zero node is not Empty")
	}
}

// P7.2: each kind of tree; strings that it matches, and strings that it does not.
func TestMatch(t *testing.T) {
	for _, c := range []struct {
		pattern string
		matched string // separated by spaces; - is the empty string
		other   string
	}{
		{"", "-", "a b aa"},
		{"a", "a", "- b aa ab ba A"},
		{".", "a b .", "- aa"},
		{"[ab]", "a b", "- c ab"},
		{"[^ab]", "c ^ z", "- a b cc"},
		{"ab", "ab", "- a b ba aab abb aba"},
		{"abc", "abc", "- ab bc ac abcc abb"},
		{"a|b", "a b", "- ab c aa"},
		{"a|bc|", "a bc -", "b c ab abc"},
		{"ab|cd", "ab cd", "abd acd a c abcd"},
		{"a*", "- a aa aaa", "b ab ba aab"},
		{"a+", "a aa aaa", "- b ab ba"},
		{"a?", "- a", "b aa ab"},
		{"(ab)*", "- ab abab", "a b aba ba abb"},
		{"(ab)+", "ab abab", "- a aba ba"},
		{"(ab)?", "- ab", "a b abab"},
		{"a*b", "b ab aab", "- a ba abb"},
		{"ab*", "a ab abb", "- b aa abba"},
		{"a+b?", "a aab ab", "- b abb aba"},
		{"a?b", "b ab", "- a aab abb"},
		{"ab?", "a ab", "- b abb aa"},
		{".*x", "x yyx xx xyx", "- y xy"},
		{"()a", "a", "- aa"}, {"a()", "a", "- aa"}, {"()*", "-", "a"}, {"()+", "-", "a"}, {"()?", "-", "a"},
	} {
		n := parse(t, c.pattern)
		for _, s := range strings.Fields(c.matched) {
			checkMatch(t, c.pattern, n, strings.Trim(s, "-"), true)
		}
		for _, s := range strings.Fields(c.other) {
			checkMatch(t, c.pattern, n, strings.Trim(s, "-"), false)
		}
	}
}

// P7.2: parts that can be cut in several ways, and signs one behind another.
func TestCuts(t *testing.T) {
	for _, c := range []struct{ pattern, matched, other string }{
		{"(ab|a)(bc|c)", "abc abbc ac", "- ab abcc bc a"},
		{"(a|ab)(c|bcd)(d*)", "abcd acd abcdd ac abc acdd", "- abd abcbcd a"},
		{"a*a", "a aa aaa", "- b ab"},
		{"a*ab", "ab aab aaab", "- b a abb"},
		{"a*a*a*", "- a aaaa", "b aab"},
		{"a*a?a", "a aa aaa", "-"},
		{"a+a+", "aa aaa", "- a"},
		{"(a*)+", "- a aa", "b"},
		{"(a+)*", "- a aa", "b ab"},
		{"(a?b?)*", "- a b ba abba bbaa", "c abc"},
		{"(|a)+", "- a aa", "b"},
		{"(a|ab|aba)*", "- abaab aababa ababa", "b abb bab"},
		{"((a*)*b)*", "- b ab aabb bbab", "a ba aba"},
		{"((a+)+b)+", "ab aab abab", "- b a abb"},
		{"(ab*)*c?", "- abbab abc c aac", "b cc bac"},
		{"a*?", "- a aaa", "b"}, {"a+?", "- a aaa", "b"}, {"a?+", "- a aaa", "b"}, {"a?*", "- a aaa", "b"}, {"a+*", "- a aaa", "b"}, {"a**", "- a aaa", "b"},
		{"a++", "a aa", "- b"}, {"a??", "- a", "aa"},
		{"(a*b?)?c", "c ac aabc bc", "- abbc cab"},
		{"(a|b)*abb", "abb aabb babb abbabb", "- ab abba bba"},
		{"(aa|aaa)*", "- aa aaa aaaa aaaaaaa", "a"},
		{"(ab)+b+|b(ab)*", "abb ababbb b bab babab", "- ab ba abab bb"},
	} {
		n := parse(t, c.pattern)
		for _, s := range strings.Fields(c.matched) {
			checkMatch(t, c.pattern, n, strings.Trim(s, "-"), true)
		}
		for _, s := range strings.Fields(c.other) {
			checkMatch(t, c.pattern, n, strings.Trim(s, "-"), false)
		}
	}
}

// P7.2, P7.3: classes, and every byte.
func TestEveryByte(t *testing.T) {
	for _, c := range []struct {
		pattern string
		in      func(b byte) bool
	}{
		{".", func(byte) bool { return true }},
		{"[\x00-\xff]", func(byte) bool { return true }},
		{"[^\x80-\xff]", func(b byte) bool { return b < 128 }},
		{"[\x3f-\x40\x7f-\x80\xbf-\xc0]", func(b byte) bool { return b%64 == 63 && b != 255 || b%64 == 0 && b != 0 }},
		{"[\x00\xff]", func(b byte) bool { return b == 0 || b == 255 }},
		{"\x00", func(b byte) bool { return b == 0 }},
		{"\xff", func(b byte) bool { return b == 255 }},
		{"\xe9", func(b byte) bool { return b == 0xe9 }},
	} {
		n, twice := parse(t, c.pattern), parse(t, c.pattern+c.pattern)
		for i := range 256 {
			b := string([]byte{byte(i)})
			in := c.in(byte(i))
			checkMatch(t, c.pattern, n, b, in)
			checkBegins(t, c.pattern, n, b, in)
			checkMatch(t, c.pattern+c.pattern, twice, b, false)
			checkBegins(t, c.pattern+c.pattern, twice, b, in)
			checkMatch(t, c.pattern+c.pattern, twice, b+b, in)
			checkMatch(t, c.pattern, n, b+b, false)
		}
	}
	// Of a letter of several bytes a pattern takes each alone.
	n := parse(t, "\xc3\xa9+")
	checkMatch(t, "é+", n, "\xc3\xa9\xa9", true)
	checkMatch(t, "é+", n, "\xc3\xa9\xc3\xa9", false)
	checkMatch(t, "é+", n, "\xc3", false)
	checkMatch(t, "é+", n, "é", true)
}

// P7.3: beginnings of what is matched, and strings that no further byte makes good.
func TestBegins(t *testing.T) {
	for _, c := range []struct{ pattern, begun, other string }{
		{"", "-", "a"},
		{"a", "- a", "b aa ab"},
		{"abc", "- a ab abc", "b ac abb abcd abca"},
		{"(ab|a)*", "- a ab aa aba aab", "b abb bb ba abba"},
		{"a+b?", "- a aa ab aab", "b aba abb"},
		{".*x", "- x y yy yyx xyx \x00\xff", ""},
		{"a|bc", "- a b bc", "c ab ac bb bca"},
		{"a*", "- a aaa", "b ab ba"},
		{"(ab)+", "- a ab aba abab", "b aa abb ababb"},
		{"a?bc", "- a ab abc b bc", "c aa ac bb abcc"},
		{"[ab][^b]c", "- a bc bac aac", "c ab bb bacc aab"},
		{"()*", "-", "a"},
		{"x(a*b)*y", "- x xa xb xaab xaaby xy", "a xay xyx xyy xaac"},
	} {
		n := parse(t, c.pattern)
		for _, s := range strings.Fields(c.begun) {
			checkBegins(t, c.pattern, n, strings.Trim(s, "-"), true)
		}
		for _, s := range strings.Fields(c.other) {
			checkBegins(t, c.pattern, n, strings.Trim(s, "-"), false)
		}
	}
}

// P7.1 to P7.3: all short patterns and strings of few letters, as the model that follows the chapter's words.
func TestShortPatternsAsTheModel(t *testing.T) {
	const letters, most = "ab", 8
	known := map[string]texts{}
	count := 0
	everyText("ab|*+?()", 5, func(pattern string) {
		n, code := regex.Parse(pattern)
		if code != api.OK {
			return
		}
		count++
		matched := modelTexts(n, letters, most, known)
		begun := texts{}
		for s := range matched {
			for i := range len(s) + 1 {
				begun[s[:i]] = true
			}
		}
		everyText(letters, 4, func(s string) { checkMatch(t, pattern, n, s, matched[s]) })
		// A pattern of five bytes asks for no more than five to be added.
		everyText(letters, 3, func(s string) { checkBegins(t, pattern, n, s, begun[s]) })
	})
	if count < 3900 {
		t.Errorf("only %d patterns were read", count)
	}
}

// P7.1 to P7.3: the same on patterns of some more bytes, and with a third letter.
func TestMixedPatternsAsTheModel(t *testing.T) {
	const letters, most = "abc", 5
	rng := rand.New(rand.NewPCG(7, 1))
	for range 300 {
		pattern := mixedPattern(rng, 3, "abc")
		n, code := regex.Parse(pattern)
		if code != api.OK {
			continue
		}
		matched := modelTexts(n, letters, most, map[string]texts{})
		everyText(letters, 5, func(s string) { checkMatch(t, pattern, n, s, matched[s]) })
	}
}

// mixedPattern makes a pattern of up to so many levels of groups.
func mixedPattern(rng *rand.Rand, levels int, atoms string) string {
	var pattern strings.Builder
	for range 1 + rng.IntN(4) {
		switch rng.IntN(8) {
		case 0:
			pattern.WriteString("|")
			continue
		case 1, 2, 3:
			if levels > 0 {
				pattern.WriteString("(" + mixedPattern(rng, levels-1, atoms) + ")")
				break
			}
			fallthrough
		case 4:
			pattern.WriteString("[" + atoms[rng.IntN(len(atoms)):] + "]")
		default:
			i := rng.IntN(len(atoms))
			pattern.WriteString(atoms[i : i+1])
		}
		pattern.WriteString([]string{"", "", "*", "+", "?", "*?", "+*"}[rng.IntN(7)])
	}
	return pattern.String()
}

// P7.2, P7.3: longer patterns and strings, as the library's expressions.
func TestMixedPatternsAsExpressions(t *testing.T) {
	rng := rand.New(rand.NewPCG(7, 2))
	matches, begins := 0, 0
	for range 1500 {
		pattern := mixedPattern(rng, 3, "ab\x00\xff")
		n, code := regex.Parse(pattern)
		if code != api.OK {
			continue
		}
		whole, start := wholly(t, expression(n)), wholly(t, beginning(n))
		for range 30 {
			s := make([]byte, rng.IntN(12))
			for i := range s {
				s[i] = "ab\x00\xff"[min(rng.IntN(5), 3)]
			}
			in := runes(string(s))
			matched, begun := whole.MatchString(in), start.MatchString(in)
			checkMatch(t, pattern, n, string(s), matched)
			checkBegins(t, pattern, n, string(s), begun)
			if matched {
				matches++
			}
			if begun {
				begins++
			}
		}
	}
	if matches < 1000 || begins < matches+100 {
		t.Errorf("%d matches and %d beginnings", matches, begins)
	}
}

// P7.2, P7.3: whatever matches begins, and so does each beginning of it; the empty string always does.
func TestMatchedStringsBegin(t *testing.T) {
	rng := rand.New(rand.NewPCG(7, 3))
	for range 500 {
		pattern := mixedPattern(rng, 3, "abc")
		n, code := regex.Parse(pattern)
		if code != api.OK {
			continue
		}
		checkBegins(t, pattern, n, "", true)
		s := sampleOf(rng, n)
		checkMatch(t, pattern, n, s, true)
		for i := range min(len(s), 50) + 1 {
			checkBegins(t, pattern, n, s[:i], true)
			checkBegins(t, pattern, n, s[:i]+"x"+s[i:], false)
			checkMatch(t, pattern, n, s[:i]+"x"+s[i:], false)
		}
	}
}

// sampleOf makes a string that the tree matches.
func sampleOf(rng *rand.Rand, n *regex.Node) string {
	times := map[regex.Kind]int{regex.Star: rng.IntN(3), regex.Plus: 1 + rng.IntN(2), regex.Quest: rng.IntN(2)}
	switch n.Kind {
	case regex.Class:
		for {
			if b := byte(rng.IntN(256)); has(n.Set, b) {
				return string([]byte{b})
			}
		}
	case regex.Cat:
		return sampleOf(rng, n.Kids[0]) + sampleOf(rng, n.Kids[1])
	case regex.Alt:
		return sampleOf(rng, n.Kids[rng.IntN(2)])
	}
	var s strings.Builder
	for range times[n.Kind] {
		s.WriteString(sampleOf(rng, n.Kids[0]))
	}
	return s.String()
}

// P7.2, P7.3, P1: long strings, against patterns that would take very long if one went back.
func TestLongStrings(t *testing.T) {
	for _, pattern := range []string{
		"(a*)*b", "(a|a)*b", "(a|aa)*b", "(a*)*(a*)*(a*)*b", "((a*)*)*b", "((a+)+)+b", "(a?a?a?)*b", "(((a*)+)?)*b", "(.*.*.*)*b", "(|a)+b", "(a*a*)+a*b",
	} {
		n := parse(t, pattern)
		long := strings.Repeat("a", 20000)
		checkMatch(t, pattern, n, long, false)
		checkMatch(t, pattern, n, long+"b", true)
		checkBegins(t, pattern, n, long, true)
		checkMatch(t, pattern, n, long+"bc", false)
	}
	n := parse(t, "(ab|a)*")
	checkMatch(t, "(ab|a)*", n, strings.Repeat("aab", 100000), true)
	checkMatch(t, "(ab|a)*", n, strings.Repeat("aab", 100000)+"b", false)
	checkBegins(t, "(ab|a)*", n, strings.Repeat("aab", 100000)+"b", false)
	checkBegins(t, "(ab|a)*", n, "b"+strings.Repeat("aab", 100000), false)
}

// P7.2, P7.3, P1: patterns of 64 bytes.
func TestLongPatterns(t *testing.T) {
	for _, pattern := range []string{
		strings.Repeat("a", 64),
		strings.Repeat("a?", 21) + strings.Repeat("a", 22),
		strings.Repeat("a*", 32),
		strings.Repeat("a+", 32),
		strings.Repeat(".*", 31) + "ab",
		"a" + strings.Repeat("*", 63),
		"a" + strings.Repeat("+", 63),
		"a" + strings.Repeat("?", 63),
		"a" + strings.Repeat("+?*", 21),
		strings.Repeat("a|", 32),
		strings.Repeat("(", 16) + strings.Repeat("a", 16) + strings.Repeat(")*", 16),
		strings.Repeat("(", 16) + strings.Repeat("a", 16) + strings.Repeat(")+", 16),
		strings.Repeat("(a*", 16) + strings.Repeat(")", 16),
		strings.Repeat("(a?", 12) + strings.Repeat(")*", 12) + "bb",
		strings.Repeat("[^b]", 16),
		strings.Repeat("(a|b)", 12) + "ab?a",
	} {
		n := parse(t, pattern)
		whole, start := wholly(t, expression(n)), wholly(t, beginning(n))
		for length := range 80 {
			for _, s := range []string{strings.Repeat("a", length), strings.Repeat("a", length) + "b", strings.Repeat("b", length), strings.Repeat("ba", length/2)} {
				checkMatch(t, pattern, n, s, whole.MatchString(s))
				checkBegins(t, pattern, n, s, start.MatchString(s))
			}
		}
		deriv.Match(n, strings.Repeat("a", 3000))
		deriv.Begins(n, strings.Repeat("a", 3000))
	}
}

// P2, rule 4: a tree that was matched is as it was, and answers the same again; two trees in turns are independent.
func TestTreesAreLeftAlone(t *testing.T) {
	patterns := []string{"(a+b?)*c", "((a*)+b|c)+", "[ab]?c+(a|b)*"}
	var trees, copies []*regex.Node
	for _, pattern := range patterns {
		trees = append(trees, parse(t, pattern))
		copies = append(copies, parse(t, pattern))
	}
	type answers [3]bool
	first := map[string]answers{}
	for round := range 3 {
		everyText("abc", 4, func(s string) {
			for i, n := range trees {
				got := answers{deriv.Nullable(n), deriv.Match(n, s), deriv.Begins(n, s)}
				if round == 0 {
					first[patterns[i]+" "+s] = got
				} else if first[patterns[i]+" "+s] != got {
					t.Fatalf("%q against %q: %v, then %v", patterns[i], s, first[patterns[i]+" "+s], got)
				}
			}
		})
	}
	if !reflect.DeepEqual(trees, copies) {
		t.Error("a tree has changed")
	}
}

// The chapter's examples.
func TestExamples(t *testing.T) {
	n := parse(t, "(ab|a)*")
	checkMatch(t, "(ab|a)*", n, "", true)
	checkMatch(t, "(ab|a)*", n, "aab", true)
	checkMatch(t, "(ab|a)*", n, "b", false)
	checkBegins(t, "(ab|a)*", n, "aa", true)
	checkBegins(t, "(ab|a)*", n, "ab", true)
	checkBegins(t, "(ab|a)*", n, "b", false)
}
