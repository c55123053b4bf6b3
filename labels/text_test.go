package labels_test

import (
	"math"
	"strings"
	"testing"

	"almanac/api"
	"almanac/labels"
)

// P4.6
func TestShow(t *testing.T) {
	for _, c := range []struct {
		list []api.Label
		want string
	}{
		{pairs("a", "x", "b", "1"), `a="x",b="1"`}, {pairs("a", "\"\xc8"), `a="\"\xc8"`}, {pairs("_9", "\\ ,=\n"), `_9="\\ ,=\x0a"`},
		{nil, ""}, {pairs("b", "1", "a", "x"), ""}, {pairs("a", "x", "a", "x"), ""}, {pairs("a", "x", "b", ""), ""}, {pairs("9", "x"), ""},
		{numbered(api.MaxLabels + 1), ""},
	} {
		if got := labels.Show(c.list); got != c.want {
			t.Errorf("%q is shown as %q, not %q", c.list, got, c.want)
		}
	}
}

// P4.6
func TestReadReadsWhatIsShown(t *testing.T) {
	for _, set := range goodSets() {
		text := modelShow(set)
		if got := labels.Show(set); got != text {
			t.Fatalf("%q is shown as %q, not %q", set, got, text)
		}
		checkRead(t, text, set, api.OK)
	}
	checkRead(t, `a="x",b="1"`, pairs("a", "x", "b", "1"), api.OK)
	checkRead(t, `a="\"\xc8"`, pairs("a", "\"\xc8"), api.OK)
	checkRead(t, `a="b=\"c\",d",e=","`, pairs("a", `b="c",d`, "e", ","), api.OK)
}

// P4.6
func TestTextsThatAreOfNoSet(t *testing.T) {
	long := strings.Repeat("n", api.MaxName)
	value := strings.Repeat(`\xff`, api.MaxValue)
	checkRead(t, long+`="`+value+`"`, pairs(long, strings.Repeat("\xff", api.MaxValue)), api.OK)
	nine := ""
	for _, name := range "abcdefghi" {
		nine += "," + string(name) + `="x"`
	}
	checkRead(t, nine[1:len(nine)-6], pairs("a", "x", "b", "x", "c", "x", "d", "x", "e", "x", "f", "x", "g", "x", "h", "x"), api.OK)
	for _, s := range []string{
		"", " ", ",", "=", `"`, "a", "a=", `a="`, `a="x`, `="x"`, `"x"`, `a"x"`, `a=x`, `a='x'`, `a=""`, `a=x"`, `a="x"x`, `a=="x"`, `a="x""`,
		`a="x",`, `,a="x"`, `a="x",,b="y"`, `a="x"b="y"`, `a="x";b="y"`, `a="x",b`, `a="x",b=`, `a="x",b="`, `a="x",b=""`, `a="x",b=y`,
		` a="x"`, `a ="x"`, `a= "x"`, `a="x" `, `a="x", b="y"`, `a="x" ,b="y"`, `{a="x"}`, "a=\"x\"\n", "a=\"x\n\"", "a=\"\xff\"",
		`b="y",a="x"`, `a="x",a="x"`, `a="x",a="y"`, `a="x",c="x",b="x"`, `a="x",B="x"`, `0a="x"`, `a-b="x"`, "\xc3\xa9=\"x\"",
		`a="\x41"`, `a="\xFF"`, `a="\xf"`, `a="\n"`, `a="\u00ff"`, `a="\377"`, `a="x\"`, `a="\"`,
		long + `n="x"`, `a="` + value + `x"`, nine[1:], nine, nine[1:] + `,j="x"`, nine[1:len(nine)-6] + ",", strings.Repeat(`a="x",`, 100000),
	} {
		checkRead(t, s, nil, api.ErrForm)
	}
}

// P4.6: no other texts than those that Show gives are read as a set.
func TestReadOfChangedTexts(t *testing.T) {
	for _, set := range goodSets()[:6] {
		changed(modelShow(set), allBytes(), func(s string) {
			want, code := modelRead(s)
			checkRead(t, s, want, code)
			if code == api.OK && labels.Show(want) != s {
				t.Fatalf("%q is read as a set whose text is %q", s, labels.Show(want))
			}
		})
	}
}

// P4.6
func TestReadOfEveryShortText(t *testing.T) {
	read := 0
	everyText(`ab1=",`, 7, func(s string) {
		want, code := modelRead(s)
		checkRead(t, s, want, code)
		if code == api.OK {
			read++
		}
	})
	if read == 0 {
		t.Error("none of the texts is of a set")
	}
}

// everyText calls check with each text of up to this many of these letters.
func everyText(letters string, most int, check func(string)) {
	level := []string{""}
	for range most + 1 {
		var longer []string
		for _, s := range level {
			check(s)
			for i := range len(letters) {
				longer = append(longer, s+letters[i:i+1])
			}
		}
		level = longer
	}
}

// P4.7
func TestQuoteOfEveryByte(t *testing.T) {
	for _, b := range allBytes() {
		for _, v := range []string{string([]byte{b}), "a" + string([]byte{b}), string([]byte{b, '0'}), "x" + string([]byte{b, '\\', b}) + "4", "\xff" + string([]byte{b, b})} {
			want := modelQuote(v)
			if got := labels.Quote(v); got != want {
				t.Fatalf("%q is quoted as %q, not %q", v, got, want)
			}
			checkUnquote(t, want, 0, v, len(want), api.OK)
			checkUnquote(t, `"\`+want+`"41`, 2, v, len(want)+2, api.OK)
		}
	}
	for v, want := range map[string]string{"": `""`, "a b~": `"a b~"`, "\"": `"\""`, "\\": `"\\"`, "\\x41": `"\\x41"`, "'": `"'"`,
		"\x00\x09\x0a\x1f\x20": `"\x00\x09\x0a\x1f "`, "\x7e\x7f\x80\xab\xff": `"~\x7f\x80\xab\xff"`, "\xc3\xa9": `"\xc3\xa9"`} {
		if got := labels.Quote(v); got != want {
			t.Errorf("%q is quoted as %q, not %q", v, got, want)
		}
		checkUnquote(t, want, 0, v, len(want), api.OK)
	}
}

// P4.7
func TestQuoteOfAllBytes(t *testing.T) {
	v := strings.Repeat(string(allBytes()), 300)
	quoted := labels.Quote(v)
	if quoted != modelQuote(v) {
		t.Error("all bytes are quoted otherwise")
	}
	checkUnquote(t, quoted, 0, v, len(quoted), api.OK)
	checkUnquote(t, quoted[:len(quoted)-1], 0, "", 0, api.ErrForm)
}

// P4.7
func TestUnquoteOfWhatIsNoQuotedForm(t *testing.T) {
	for _, s := range []string{
		"", `"`, "a", `a"`, `'a'`, "\\", `\"`, `"a`, `"a'`, "`a`", ` "a"`, `"\"`, `"\\`, `"\\\"`, `"a\"`,
		`"\x"`, `"\xf"`, `"\x8`, `"\x80`, `"\xFF"`, `"\xfF"`, `"\xFf"`, `"\X80"`, `"\x8g"`, `"\xg8"`, `"\x 8"`, `"\x-1"`, `"\x+1"`, `"\x8:"`, `"\x8/"`, "\"\\x8`\"",
		`"\x20"`, `"\x41"`, `"\x7e"`, `"\x22"`, `"\x5c"`, `"\a"`, `"\n"`, `"\t"`, `"\0"`, `"\377"`, `"\u00e9"`, `"\'"`, `"\ "`, "\"\\\n\"", "\"\\\x80\"",
		"\"\x00\"", "\"\n\"", "\"a\x1f\"", "\"\x7f\"", "\"\x80\"", "\"\xff\"", "\"\xc3\xa9\"",
	} {
		checkUnquote(t, s, 0, "", 0, api.ErrForm)
		checkUnquote(t, `""`+s, 2, "", 0, api.ErrForm)
	}
	for _, b := range allBytes() {
		_, next, code := modelUnquote(string([]byte{'"', b, '"'}), 0)
		if _, gotNext, got := labels.Unquote(string([]byte{'"', b, '"'}), 0); gotNext != next || got != code {
			t.Errorf("%q by itself: %d, %d", b, gotNext, got)
		}
	}
}

// P4.7
func TestUnquoteOfEveryEscape(t *testing.T) {
	for _, first := range allBytes() {
		s := string([]byte{'"', '\\', first, '"'})
		want, next, code := modelUnquote(s, 0)
		checkUnquote(t, s, 0, want, next, code)
		for _, second := range allBytes() {
			s := string([]byte{'"', '\\', 'x', first, second, '"'})
			want, next, code := modelUnquote(s, 0)
			checkUnquote(t, s, 0, want, next, code)
		}
	}
}

// P4.7
func TestUnquoteOfEveryShortText(t *testing.T) {
	everyText("\"\\x27fF\x7f", 6, func(s string) {
		want, next, code := modelUnquote(s, 0)
		checkUnquote(t, s, 0, want, next, code)
		want, next, code = modelUnquote(`"`+s, 0)
		checkUnquote(t, `"`+s, 0, want, next, code)
		if code == api.OK && labels.Quote(want) != (`"` + s)[:next] {
			t.Fatalf("%q is read as %q", s, want)
		}
	})
}

// P4.7
func TestUnquoteAtEveryPosition(t *testing.T) {
	s := `a="x\"\x80\\",b="",""` + "\"\x80\"more\""
	for at := -3; at <= len(s)+3; at++ {
		want, next, code := modelUnquote(s, at)
		checkUnquote(t, s, at, want, next, code)
	}
	checkUnquote(t, s, 2, "x\"\x80\\", 13, api.OK)
	checkUnquote(t, s, 16, "", 18, api.OK)
	for _, at := range []int{math.MinInt, math.MinInt + 1, -1, len(s), len(s) + 1, math.MaxInt - 1, math.MaxInt} {
		checkUnquote(t, s, at, "", 0, api.ErrForm)
		checkUnquote(t, "", at, "", 0, api.ErrForm)
	}
}
