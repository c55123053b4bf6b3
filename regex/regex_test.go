package regex_test

import (
	"fmt"
	"math/rand/v2"
	"strings"
	"testing"

	"almanac/api"
	"almanac/regex"
)

// signs are the bytes that do not represent themselves outside of a class.
const signs = `()[|*+?\.`

// allErrors are those of patterns.
var allErrors = []api.Errno{api.ErrPattern, api.ErrOpen, api.ErrClose, api.ErrClass, api.ErrRepeat, api.ErrEscape, api.ErrNest}

// P6.1, P6.2: branches and pieces.
func TestTrees(t *testing.T) {
	for _, tree := range [][2]string{
		{"", "e"}, {"a", "A"}, {"ab", "(AB)"}, {"abc", "((AB)C)"}, {"abca", "(((AB)C)A)"},
		{"a|b", "(A|B)"}, {"a|b|c", "((A|B)|C)"}, {"a|b|c|a", "(((A|B)|C)|A)"},
		{"|", "(e|e)"}, {"||", "((e|e)|e)"}, {"|a", "(e|A)"}, {"a|", "(A|e)"}, {"a||b", "((A|e)|B)"}, {"|a|", "((e|A)|e)"},
		{"a|bc*", "(A|(BC*))"}, {"ab|c", "((AB)|C)"}, {"ab|ca", "((AB)|(CA))"},
	} {
		checkTree(t, tree[0], tree[1])
	}
}

// P6.1, P6.2: groups.
func TestGroups(t *testing.T) {
	for _, tree := range [][2]string{
		{"()", "e"}, {"(a)", "A"}, {"((a))", "A"}, {"(())", "e"}, {"()()", "(ee)"}, {"()a", "(eA)"}, {"a()", "(Ae)"}, {"()|()", "(e|e)"},
		{"(ab)c", "((AB)C)"}, {"a(bc)", "(A(BC))"}, {"(a|b)|c", "((A|B)|C)"}, {"a|(b|c)", "(A|(B|C))"},
		{"(a|b)c", "((A|B)C)"}, {"a(b|c)", "(A(B|C))"}, {"(|a)", "(e|A)"}, {"(a|)", "(A|e)"}, {"(|)", "(e|e)"},
		{"(|a)?", "(e|A)?"}, {"(ab)*c", "((AB)*C)"}, {"((a)(b))", "(AB)"}, {"(a(b(c)))", "(A(BC))"},
	} {
		checkTree(t, tree[0], tree[1])
	}
}

// P6.1, P6.2: operators belong to the atom right ahead of them, and stand one after another.
func TestOperators(t *testing.T) {
	for _, tree := range [][2]string{
		{"a*", "A*"}, {"a+", "A+"}, {"a?", "A?"}, {"ab*", "(AB*)"}, {"a*b", "(A*B)"}, {"a|b*", "(A|B*)"},
		{"a**", "A**"}, {"a*+?", "A*+?"}, {"a?+*", "A?+*"}, {"a++?b*?", "(A++?B*?)"}, {"()*", "e*"}, {"()+?", "e+?"},
		{"(a*)*", "A**"}, {"(a*)(b?)+", "(A*B?+)"}, {".*", ".*"}, {"[a-cx]+", "[61-63,78-78]+"}, {`\**`, single('*') + "*"}, {`\)?`, single(')') + "?"},
		{"a" + strings.Repeat("*", 63), "A" + strings.Repeat("*", 63)},
	} {
		checkTree(t, tree[0], tree[1])
	}
	checkTree(t, "a*?|b*?c+", "(A*?|(B*?C+))")
}

// P6.1, P6.2: every byte as itself, behind a backslash, and in a class.
func TestEveryByte(t *testing.T) {
	checkTree(t, ".", ".")
	checkTree(t, ".a.", "((.A).)")
	for n := range 256 {
		one := string([]byte{byte(n)})
		want := single(byte(n))
		checkTree(t, `\`+one, want)
		checkTree(t, `a\`+one+"c", "((A"+want+")C)")
		checkTree(t, `[\`+one+"]", want)
		if !strings.Contains(signs, one) {
			checkTree(t, one, want)
			checkTree(t, one+"*", want+"*")
			checkTree(t, "a"+one+"c", "((A"+want+")C)")
		}
		if !strings.Contains(`]\^`, one) {
			checkTree(t, "["+one+"]", want)
		}
		checkAsTheModel(t, one)
		checkAsTheModel(t, "["+one+"]")
		checkAsTheModel(t, "[^"+one+"]")
		checkAsTheModel(t, "[a"+one+"]")
	}
	checkTree(t, "]^-", "(("+single(']')+single('^')+")"+single('-')+")")
	checkTree(t, " \x00", "("+single(' ')+single(0)+")")
	// A text with letters of several bytes is so many atoms.
	checkTree(t, "\xc3\xa9+", "("+single(0xc3)+single(0xa9)+"+)")
	checkTree(t, "[\xc3\xa9]", "[a9-a9,c3-c3]")
	checkTree(t, `\`+"\xc3\xa9", "("+single(0xc3)+single(0xa9)+")")
}

// P6.1: every pattern of two bytes, and every range, both with and without backslashes.
func TestEveryTwoBytes(t *testing.T) {
	for n := range 256 * 256 {
		first, last := byte(n>>8), byte(n)
		checkAsTheModel(t, string([]byte{first, last}))
		checkAsTheModel(t, string([]byte{'[', first, '-', last, ']'}))
		pattern := string([]byte{'[', '\\', first, '-', '\\', last, ']'})
		if last < first {
			checkError(t, pattern, api.ErrClass)
			continue
		}
		checkText(t, pattern, fmt.Sprintf("[%02x-%02x]", first, last))
	}
}

// P6.1, P6.2: the items of a class.
func TestClasses(t *testing.T) {
	for _, tree := range [][2]string{
		{"[a]", "A"}, {"[ab]", "[61-62]"}, {"[ba]", "[61-62]"}, {"[aa]", "A"}, {"[ac]", "[61-61,63-63]"}, {"[xa-c]", "[61-63,78-78]"},
		{"[a-a]", "A"}, {"[a-c]", "[61-63]"}, {"[a-cb-d]", "[61-64]"}, {"[a-cd-f]", "[61-66]"}, {"[a-cbb]", "[61-63]"}, {"[a-ce-g]", "[61-63,65-67]"}, {"[a-dc]", "[61-64]"},
		{"[0-9a-f_]", "[30-39,5f-5f,61-66]"}, {"[\x00-\xff]", "."}, {"[\x00]", single(0)}, {"[\xff]", single(255)}, {"[\x00\xff]", "[00-00,ff-ff]"}, {"[\x00-\x01\xfe-\xff]", "[00-01,fe-ff]"},
		{"[\x7f-\x80]", "[7f-80]"}, {"[?-@]", "[3f-40]"}, {"[\xbf-\xc0]", "[bf-c0]"},
		// Signs of patterns are ordinary letters here.
		{"[*+?.|()[]", "[28-2b,2e-2e,3f-3f,5b-5b,7c-7c]"}, {"[.]", single('.')}, {"[(]", single('(')}, {"[)]", single(')')}, {"[[]", single('[')}, {"[|]", single('|')},
		{"[(-+]", "[28-2b]"}, {"[[-^]", "[5b-5e]"}, {"[a|b]", "[61-62,7c-7c]"}, {"[ ]", single(' ')},
	} {
		checkTree(t, tree[0], tree[1])
	}
	checkTree(t, "[a]]", "(A"+single(']')+")")
	checkTree(t, "[a][b]", "(AB)")
	checkTree(t, "[a](b)|[c]*", "((AB)|C*)")
	checkTree(t, "[a]-[c]", "((A"+single('-')+")C)")
}

// P6.1: a ^ at the beginning of a class and elsewhere.
func TestNegatedClasses(t *testing.T) {
	for _, tree := range [][2]string{
		{"[^a]", "[00-60,62-ff]"}, {"[^a-c]", "[00-60,64-ff]"}, {"[^ab]", "[00-60,63-ff]"}, {"[^\x00]", "[01-ff]"}, {"[^\xff]", "[00-fe]"}, {"[^\x00-\xfe]", "[ff-ff]"}, {"[^\x01-\xff]", "[00-00]"},
		{"[^^]", "[00-5d,5f-ff]"}, {"[^^a]", "[00-5d,5f-60,62-ff]"}, {"[a^]", "[5e-5e,61-61]"}, {"[\\^]", "[5e-5e]"}, {"[\\^a]", "[5e-5e,61-61]"}, {"[a-c^]", "[5e-5e,61-63]"},
		{"[^-]", "[00-2c,2e-ff]"}, {"[^-a]", "[00-2c,2e-60,62-ff]"}, {"[^a-]", "[00-2c,2e-60,62-ff]"}, {"[^--a]", "[00-2c,62-ff]"}, {"[^\\]]", "[00-5c,5e-ff]"}, {"[^^-a]", "[00-5d,62-ff]"}, {"[Z-^]", "[5a-5e]"},
		{"[^\\^]", "[00-5d,5f-ff]"}, {"[^.]", "[00-2d,2f-ff]"}, {"[^a]*", "[00-60,62-ff]*"},
	} {
		checkTree(t, tree[0], tree[1])
	}
	checkTree(t, "^a", "("+single('^')+"A)")
}

// P6.1: a - first, last, and between letters.
func TestHyphensInClasses(t *testing.T) {
	for _, tree := range [][2]string{
		{"[-]", "[2d-2d]"}, {"[--]", "[2d-2d]"}, {"[---]", "[2d-2d]"}, {"[----]", "[2d-2d]"}, {"[-a]", "[2d-2d,61-61]"}, {"[a-]", "[2d-2d,61-61]"}, {"[-a-]", "[2d-2d,61-61]"}, {"[-a-c]", "[2d-2d,61-63]"},
		{"[a-c-]", "[2d-2d,61-63]"}, {"[a-b-c]", "[2d-2d,61-63]"}, {"[a-c-e]", "[2d-2d,61-63,65-65]"}, {"[a-ce-]", "[2d-2d,61-63,65-65]"}, {"[--a]", "[2d-61]"}, {"[--a-]", "[2d-61]"}, {"[+--]", "[2b-2d]"}, {"[+--a]", "[2b-2d,61-61]"},
		{"[+---]", "[2b-2d]"}, {"[+-\\-]", "[2b-2d]"}, {"[a\\-c]", "[2d-2d,61-61,63-63]"}, {"[\\--a]", "[2d-61]"}, {"[\\a-\\c]", "[61-63]"}, {"[\\a-c]", "[61-63]"}, {"[a-\\c]", "[61-63]"}, {"[a\\-]", "[2d-2d,61-61]"},
		{"[A-\\]]", "[41-5d]"}, {"[\\[-\\]]", "[5b-5d]"}, {"[\\\\-\\]]", "[5c-5d]"}, {"[\\]-a]", "[5d-61]"}, {"[\\]-]", "[2d-2d,5d-5d]"}, {"[\\--]", "[2d-2d]"}, {"[\\]\\\\]", "[5c-5d]"},
	} {
		checkTree(t, tree[0], tree[1])
	}
	checkTree(t, "[a-]-c]", "((([2d-2d,61-61]"+single('-')+")C)"+single(']')+")")
}

// P6.1: each error, at its first position.
func TestErrors(t *testing.T) {
	for code, patterns := range map[api.Errno][]string{
		api.ErrRepeat: {"*", "+", "?", "*a", "(*", "(+a)", "(?)", "|*", "a|+", "a||?b", "(a|*)", "(()|+", "a*|*", "()(*)"},
		api.ErrClose:  {")", "a)", "())", "(a))b", "|)", "a|)", ")(", "a*)", "[)])", `\))`},
		api.ErrEscape: {`\`, `a\`, `ab|\`, `a*\`, `\\\`, `[\`, `[a\`, `[^\`, `[a-\`, `[ab-c\`, `[\\\`, `[\]\`, `a[\`, `[a]\`, `a|[^a-\`, `[-\`, `[[\`},
		api.ErrClass: {
			"[", "[]", "[^", "[^]", "[a", "[^a", "[a-", "[a-c", "[-", "[^-", `[\]`, `[\a`, `[\\`, `[^\]`, `[a-\]`, "[b-a]", "[ab-a]", "[b-ac]", "[^b-a]", "[^b-ac]", "[b-aa-b]", "[c-ba-b]", "[a-bc-b]", "[\xff-\x00]", "[a--]", `[a-\]]`, "[^\x80-\x7f]",
			"[^\x00-\xff]", "[^\x80-\xff\x00-\x7f]", "[^\x00-\xfe\xff]", "[]a]", "[]]", "[]-a]", "[^]a]", "a[", "a[]", "(a[b-a])", "[[", "[(a|b", "[a|b)*",
		},
		api.ErrOpen: {"(", "(a", "((", "(()", "(a|", "(a|b", "a(b*", "()(", "(a)(b", "([)]", `(\)`, "(a|()"},
	} {
		for _, pattern := range patterns {
			checkError(t, pattern, code)
			if got := checkAsTheModel(t, pattern); got != code {
				t.Errorf("the model's error of %q is %d, not %d", pattern, got, code)
			}
		}
	}
}

// P6.1: of two errors in a pattern the one at the first position is reported.
func TestTheFirstOfTwoErrors(t *testing.T) {
	nest := strings.Repeat("(", 17)
	for _, e := range []struct {
		pattern string
		code    api.Errno
	}{
		{"*)", api.ErrRepeat}, {")*", api.ErrClose}, {"(*", api.ErrRepeat}, {"(*)", api.ErrRepeat}, {"a)|*", api.ErrClose}, {"a|*)", api.ErrRepeat}, {`*\`, api.ErrRepeat}, {`)\`, api.ErrClose}, {"**", api.ErrRepeat},
		{`(\`, api.ErrEscape}, {"([", api.ErrClass}, {"([b-a", api.ErrClass}, {"(*[b-a]", api.ErrRepeat}, {"[b-a]*)", api.ErrClass}, {"[](*", api.ErrClass}, {"[b-a])", api.ErrClass}, {"[b-a](", api.ErrClass}, {"[b-a]|*", api.ErrClass}, {")[", api.ErrClose}, {"*[", api.ErrRepeat},
		// A backslash at the end is in the class, or behind it.
		{`[b-a\`, api.ErrEscape}, {`[^b-a\`, api.ErrEscape}, {`[b-ac-\`, api.ErrEscape}, {`[b-a]\`, api.ErrClass}, {`[]\`, api.ErrClass}, {`[^]\`, api.ErrClass}, {"[^\x00-\xff\\", api.ErrEscape}, {"[^\x00-\xff]\\", api.ErrClass}, {`[b-a\]\`, api.ErrEscape}, {`[b-a\\`, api.ErrClass}, {`[b-a\]`, api.ErrClass},
		{`[*\`, api.ErrEscape}, {`[)\`, api.ErrEscape}, {`*[\`, api.ErrRepeat}, {`)[\`, api.ErrClose}, {`[b-a][\`, api.ErrClass}, {`[*)(`, api.ErrClass}, {"[" + nest + `\`, api.ErrEscape},
		{nest + "*", api.ErrNest}, {nest + `\`, api.ErrNest}, {nest + "[", api.ErrNest}, {nest[1:] + "*(", api.ErrRepeat}, {nest[1:] + "[](", api.ErrClass}, {nest[1:] + "[(", api.ErrClass}, {nest[1:] + "*", api.ErrRepeat}, {")" + nest, api.ErrClose}, {"[b-a]" + nest, api.ErrClass}, {nest + ")))", api.ErrNest},
	} {
		checkError(t, e.pattern, e.code)
		if got := checkAsTheModel(t, e.pattern); got != e.code {
			t.Errorf("the model's error of %q is %d, not %d", e.pattern, got, e.code)
		}
	}
}

// P6.1: 64 bytes, and more; their number comes ahead of all other errors.
func TestLongPatterns(t *testing.T) {
	checkTree(t, strings.Repeat("a", 64), strings.Repeat("(", 63)+"A"+strings.Repeat("A)", 63))
	checkTree(t, "["+strings.Repeat("ab", 31)+"]", "[61-62]")
	checkTree(t, strings.Repeat(`\.`, 32), modelOf(t, strings.Repeat(`\.`, 32)))
	for _, size := range []int{65, 66, 128, 256, 1000, 1 << 20} {
		for _, part := range []string{"a", "*", "(", ")", "[", `\`, "|", "[b-a]", "\x00", "()"} {
			checkError(t, strings.Repeat(part, size)[:size], api.ErrPattern)
		}
	}
	for _, part := range []string{"a", "*", "(", ")", "[", `\`, "|", "\xff"} {
		checkAsTheModel(t, strings.Repeat(part, 64))
		checkAsTheModel(t, strings.Repeat(part, 63))
		checkError(t, strings.Repeat(part, 65), api.ErrPattern)
	}
	checkError(t, "*"+strings.Repeat("a", 64), api.ErrPattern)
	checkError(t, strings.Repeat("a", 64)+`\`, api.ErrPattern)
	checkError(t, strings.Repeat("a", 63)+`\`, api.ErrEscape)
	checkError(t, strings.Repeat("a", 63)+"(", api.ErrOpen)
}

// P6.1: 16 groups that are open, and one more.
func TestNestedGroups(t *testing.T) {
	for depth := range 16 {
		open, closed := strings.Repeat("(", depth+1), strings.Repeat(")", depth+1)
		checkTree(t, open+"a"+closed, "A")
		checkTree(t, open+closed, "e")
		checkError(t, open+"a"+closed[1:], api.ErrOpen)
		checkError(t, open+"a"+closed+")", api.ErrClose)
	}
	open, closed := strings.Repeat("(", 16), strings.Repeat(")", 16)
	checkError(t, "("+open+"a"+closed+")", api.ErrNest)
	checkError(t, "("+open, api.ErrNest)
	checkError(t, open+"a(b)"+closed, api.ErrNest)
	checkError(t, open+")((a)"+closed, api.ErrNest)
	checkError(t, open, api.ErrOpen)
	// Groups that are closed do not count, nor do brackets that are bytes.
	checkTree(t, open+closed+open+closed, "(ee)")
	checkTree(t, open+")(a)"+closed[1:], "(eA)")
	checkTree(t, open+`\([(]`+closed, "("+single('(')+single('(')+")")
	checkTree(t, strings.Repeat("()", 32), modelOf(t, strings.Repeat("()", 32)))
	checkTree(t, strings.Repeat("(a", 16)+closed, strings.Repeat("(A", 15)+"A"+strings.Repeat(")", 15))
	checkTree(t, strings.Repeat("(a|", 15)+"b"+closed[:15], strings.Repeat("(A|", 15)+"B"+strings.Repeat(")", 15))
}

// modelOf is the text of a pattern's tree by the model.
func modelOf(t *testing.T, pattern string) string {
	t.Helper()
	text, code := modelParse(pattern)
	if code != api.OK {
		t.Fatalf("the model's error of %q is %d", pattern, code)
	}
	return text
}

// P6.1, P6.2
func TestEveryShortPattern(t *testing.T) {
	met := map[api.Errno]int{}
	for _, letters := range []struct {
		of   string
		most int
	}{{"ab|*()", 6}, {`[]^-ab\`, 6}, {`a|(*)[].\-^`, 5}, {"()|", 8}, {"[-]^", 8}, {"\x00[]-\xff^", 6}, {"a*+?", 6}} {
		everyText(letters.of, letters.most, func(s string) { met[checkAsTheModel(t, s)]++ })
	}
	for _, code := range append(allErrors, api.OK) {
		if met[code] == 0 && code != api.ErrPattern && code != api.ErrNest {
			t.Errorf("no pattern has the error %d", code)
		}
	}
}

// P6.1, P6.2: long patterns, of all letters, of few, and with groups in one another.
func TestMixedPatterns(t *testing.T) {
	met := map[api.Errno]int{}
	random := rand.New(rand.NewPCG(6, 1))
	for range 25000 {
		size := random.IntN(67)
		letters := []string{"ab()|*+?[]-^\\.", "a(b|", "((a)|b*", "[]a-c^\\", "()", "a.[b]"}[random.IntN(6)]
		pattern := make([]byte, size)
		for i := range pattern {
			pattern[i] = letters[random.IntN(len(letters))]
			if random.IntN(40) == 0 {
				pattern[i] = byte(random.IntN(256))
			}
		}
		met[checkAsTheModel(t, string(pattern))]++
		met[checkAsTheModel(t, goodPattern(random, 64))]++
	}
	for _, code := range append(allErrors, api.OK) {
		if met[code] == 0 {
			t.Errorf("no pattern has the error %d", code)
		}
	}
}

// goodPattern makes a pattern of at most this many bytes, most often one without an error.
func goodPattern(random *rand.Rand, most int) string {
	atoms := []string{"(", "a", "b", ".", `\(`, "[a-c]", "[^-]", "|", "a|b", "()", "\x80"}
	operators := []string{"", "", "", "*", "+", "?", "*?"}
	pattern := ""
	for range 1 + random.IntN(8) {
		part := atoms[random.IntN(len(atoms))]
		if part == "(" {
			if most < 4 {
				break
			}
			part += goodPattern(random, most/2) + ")"
		}
		if part != "|" {
			part += operators[random.IntN(len(operators))]
		}
		if len(pattern)+len(part) > most {
			break
		}
		pattern += part
	}
	return pattern
}

// P6.1, rule 4: no two nodes are the same, of one tree or of two, and no two lists share memory.
func TestTreesAreNewMemory(t *testing.T) {
	seen := map[*regex.Node]bool{}
	lists := map[**regex.Node]bool{}
	var visit func(n *regex.Node)
	visit = func(n *regex.Node) {
		if seen[n] {
			t.Fatalf("a node is met twice: %v", n)
		}
		seen[n] = true
		if cap(n.Kids) > 0 {
			first := &n.Kids[:1][0]
			if lists[first] {
				t.Fatalf("a list is met twice: %v", n)
			}
			lists[first] = true
		}
		for _, kid := range n.Kids {
			visit(kid)
		}
	}
	for range 2 {
		for _, pattern := range []string{"", "a", ".", "()", "|", "||||", "aaaa", "a**??++", "(a|a)(a|a)", "()()()", "..", "[a][a][a]", `\a\a`, "(()|())*"} {
			tree, code := regex.Parse(pattern)
			if code != api.OK {
				t.Fatalf("Parse(%q) is %d", pattern, code)
			}
			visit(tree)
		}
	}
}

// P6.1, P2: what is done to a tree, or what went wrong, is not to be seen in another one.
func TestTreesAreIndependent(t *testing.T) {
	pattern := "(a|.)*[^b]|"
	want := modelOf(t, pattern)
	first, _ := regex.Parse(pattern)
	second, _ := regex.Parse(pattern)
	first.Kids[1].Kind = regex.Star
	first.Kids[0].Kids[1].Set = regex.Set{}
	first.Kids[0].Kids[0], first.Kids[1] = nil, nil
	checkError(t, strings.Repeat("(", 16), api.ErrOpen)
	checkError(t, "((*", api.ErrRepeat)
	if got := regex.Show(second); got != want {
		t.Errorf("the second tree is shown as %s, not %s", got, want)
	}
	checkTree(t, pattern, want)
	checkTree(t, strings.Repeat("(", 16)+strings.Repeat(")", 16), "e")
}

// P6.2: Show does not change the tree, and gives a part's text for a part.
func TestShowOfParts(t *testing.T) {
	tree, _ := regex.Parse("a|(bc*)?")
	for range 2 {
		if got := regex.Show(tree); got != spelled("(A|(BC*)?)") {
			t.Errorf("the tree is shown as %s", got)
		}
	}
	for _, part := range []struct {
		of   *regex.Node
		want string
	}{{tree.Kids[0], "A"}, {tree.Kids[1], "(BC*)?"}, {tree.Kids[1].Kids[0], "(BC*)"}, {tree.Kids[1].Kids[0].Kids[1], "C*"}} {
		if got := regex.Show(part.of); got != spelled(part.want) {
			t.Errorf("a part is shown as %s, not %s", got, spelled(part.want))
		}
	}
}

// P6.2, P1: nil has no text; a zero node and a zero kind are possible arguments.
func TestShowOfNothing(t *testing.T) {
	if got := regex.Show(nil); got != "" {
		t.Errorf("nil is shown as %q", got)
	}
	regex.Show(&regex.Node{})
	regex.Show(new(regex.Node))
}

// The chapter's section Functions: the kinds and their numbers.
func TestKinds(t *testing.T) {
	for i, kind := range []regex.Kind{regex.Empty, regex.Class, regex.Cat, regex.Alt, regex.Star, regex.Plus, regex.Quest} {
		if int(kind) != i {
			t.Errorf("the kind %d has the number %d", i, kind)
		}
	}
	for pattern, want := range map[string]regex.Kind{"": regex.Empty, "()": regex.Empty, "a": regex.Class, ".": regex.Class, "[a]": regex.Class, "ab": regex.Cat, "a|b": regex.Alt, "a*": regex.Star, "a+": regex.Plus, "a?": regex.Quest} {
		if tree, _ := regex.Parse(pattern); tree.Kind != want {
			t.Errorf("the kind of %q is %d, not %d", pattern, tree.Kind, want)
		}
	}
}

// P6.3: each bit alone, all but it, all, and none.
func TestHas(t *testing.T) {
	full := regex.Set{^uint64(0), ^uint64(0), ^uint64(0), ^uint64(0)}
	for set := range 256 {
		var one regex.Set
		one[set/64] = 1 << (set % 64)
		others := full
		others[set/64] -= 1 << (set % 64)
		for n := range 256 {
			if one.Has(byte(n)) != (n == set) {
				t.Errorf("in the set of %d, Has(%d) is %v", set, n, one.Has(byte(n)))
			}
			if others.Has(byte(n)) != (n != set) {
				t.Errorf("in the set of all but %d, Has(%d) is %v", set, n, others.Has(byte(n)))
			}
		}
		if !full.Has(byte(set)) || (regex.Set{}).Has(byte(set)) {
			t.Errorf("Has(%d) is %v in all, %v in none", set, full.Has(byte(set)), regex.Set{}.Has(byte(set)))
		}
	}
}

// P6.3: sets with many bits, against the words of the promise.
func TestHasOfMixedSets(t *testing.T) {
	random := rand.New(rand.NewPCG(6, 3))
	for range 2000 {
		s := regex.Set{random.Uint64(), random.Uint64(), random.Uint64(), random.Uint64()}
		kept := s
		want := bitsOf(s)
		for n := range 256 {
			if s.Has(byte(n)) != want[n] {
				t.Fatalf("in %x, Has(%d) is %v", s, n, s.Has(byte(n)))
			}
		}
		if s != kept {
			t.Fatalf("Has makes %x of %x", s, kept)
		}
	}
}
