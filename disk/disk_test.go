package disk_test

import (
	"fmt"
	"math"
	"slices"
	"strings"
	"testing"

	"almanac/api"
	"almanac/disk"
)

func must(t *testing.T, errs ...error) {
	t.Helper()
	for _, err := range errs {
		if err != nil {
			t.Fatal(err)
		}
	}
}

// filled has directories d (with x and y) and e, and files f, g and h; its 20 bytes have room for 10 more.
func filled(t *testing.T) *disk.Disk {
	t.Helper()
	d := disk.New(30)
	must(t, d.Mkdir("d"), d.Create("d/x"), d.Create("d/y"), d.Mkdir("e"), d.Create("f"), d.Create("g"), d.Create("h"), d.SyncNames())
	must(t, d.Append("d/x", "12345"), d.Append("f", "abcdefgh"), d.Append("g", "zyxwvut"), d.Sync("f"))
	return d
}

func check(t *testing.T, what string, got, want any) {
	t.Helper()
	if g, w := fmt.Sprintf("%v", got), fmt.Sprintf("%v", want); g != w {
		t.Fatalf("%s: %s, not %s", what, g, w)
	}
}

func checkAll(t *testing.T, d *disk.Disk, path, want string) {
	t.Helper()
	got, err := d.All(path)
	if got != want || err != nil {
		t.Fatalf("%s is %q (%v), not %q", path, got, err, want)
	}
}

func checkMissing(t *testing.T, d *disk.Disk, path string) {
	t.Helper()
	_, err := d.All(path)
	check(t, path, told(err), fmt.Sprintf("read %q: %v", path, api.FailMissing))
}

// Every promise: mixed calls of a disk and of the model have the same results, and leave the same.
func TestMixedCallsAsTheModel(t *testing.T) {
	for seed := range 250 {
		s := sequence(seed*7919 + 1)
		capacity := pick(&s, -1, 0, 9, 30, 30, 60, 60, 1000)
		d, m := disk.New(capacity), newModel(capacity)
		var history []string
		for range 160 {
			name, got, want := s.callBoth(d, m)
			history = append(history, name)
			if got != want {
				t.Fatalf("with %d bytes: %s\nis %s, not %s", capacity, strings.Join(history, "\n"), got, want)
			}
			if got, want := view(d), view(m); got != want {
				t.Fatalf("with %d bytes: %s\nleaves %s\nnot %s", capacity, strings.Join(history, "\n"), got, want)
			}
		}
	}
}

// P3.1
func TestNewIsEmptyAndHasTheCapacity(t *testing.T) {
	for _, c := range []struct{ capacity, room int }{
		{math.MinInt, 0}, {-1, 0}, {0, 0}, {1, 1}, {100, 100},
		{api.MaxDisk - 1, api.MaxDisk - 1}, {api.MaxDisk, api.MaxDisk}, {api.MaxDisk + 1, api.MaxDisk}, {math.MaxInt, api.MaxDisk},
	} {
		d := disk.New(c.capacity)
		all, err := d.List("")
		if d.Off() || d.Used() != 0 || len(all) != 0 || err != nil {
			t.Fatalf("New(%d) is not empty, or off: %v %v", c.capacity, all, err)
		}
		must(t, d.Create("a"))
		full := strings.Repeat("x", c.room)
		check(t, "one byte more than the capacity", told(d.Append("a", full, "x")), `append "a": no space`)
		check(t, "all bytes of the capacity", told(d.Append("a", full)), "ok")
		check(t, "none more", told(d.Append("a")), "ok")
		check(t, "one more", told(d.Append("a", "x")), `append "a": no space`)
		check(t, "used", d.Used(), c.room)
	}
}

// P3.2
func TestNames(t *testing.T) {
	long := strings.Repeat("n", api.MaxName)
	d := disk.New(0)
	must(t, d.Mkdir("in"))
	for _, c := range []struct {
		name string
		good bool
	}{
		{"", false}, {"a", true}, {long, true}, {long + "n", false}, {strings.Repeat("n", 3000), false},
		{"a b", false}, {"a/b", false}, {"/", false}, {"é", false}, {"a\x00", false}, {"a\n", false}, {"..", true}, {".", true}, {"-", true}, {"aA", false}, {"09az.-", true},
	} {
		checkName(t, d, c.name, c.good)
	}
	for c := range 256 {
		if c == '/' { // which makes paths of names
			continue
		}
		good := strings.IndexByte("abcdefghijklmnopqrstuvwxyz0123456789.-", byte(c)) >= 0
		for _, frame := range []string{"*", "x*", "*x", "x*x"} {
			checkName(t, d, strings.Replace(frame, "*", string([]byte{byte(c)}), 1), good)
		}
	}
}

// checkName tries the name for a directory, for a file at the top level, and for one in a directory.
func checkName(t *testing.T, d *disk.Disk, name string, good bool) {
	t.Helper()
	fault := func(op, path string) string {
		if good {
			return "ok"
		}
		return fmt.Sprintf("%s %q: %v", op, path, api.FailName)
	}
	check(t, "Mkdir", told(d.Mkdir(name)), fault("mkdir", name))
	if good {
		must(t, d.Remove(name))
	}
	for _, path := range []string{"in/" + name, name} {
		if name == "a/b" && path == name { // two names, thus a path, of a directory that lacks
			continue
		}
		check(t, "Create", told(d.Create(path)), fault("create", path))
		check(t, "Append", told(d.Append(path, "")), fault("append", path))
		check(t, "Cut", told(d.Cut(path, 0)), fault("cut", path))
		check(t, "Sync", told(d.Sync(path)), fault("sync", path))
		_, err := d.Read(path, 0, 0)
		check(t, "Read", told(err), fault("read", path))
		_, err = d.All(path)
		check(t, "All", told(err), fault("read", path))
		check(t, "Remove", told(d.Remove(path)), fault("remove", path))
		if !good {
			check(t, "Flip", told(d.Flip(path, 0, 1)), fault("flip", path))
			check(t, "Rename", told(d.Rename(path, "q")), fault("rename", path))
			check(t, "Rename to it", told(d.Rename("in", path)), fault("rename", "in"))
		}
	}
	_, err := d.List(name)
	switch {
	case name == "":
		check(t, "List", told(err), "ok")
	case good:
		check(t, "List", told(err), fmt.Sprintf("list %q: %v", name, api.FailMissing))
	default:
		check(t, "List", told(err), fault("list", name))
	}
}

// P3.2
func TestPaths(t *testing.T) {
	long := strings.Repeat("n", api.MaxName)
	for path, good := range map[string]bool{
		"a": true, "d/a": true, long: true, long + "/" + long: true,
		"": false, "/": false, "/a": false, "a/": false, "d//a": false, "d/a/": false, "/d/a": false, "d/a/b": false, "//": false,
		"d\\a": false, "d/A": false, "D/a": false, long + "n/a": false, "d/" + long + "n": false,
	} {
		d := disk.New(10)
		must(t, d.Mkdir("d"), d.Remove("d"))
		want := fmt.Sprintf("%q: %v", path, api.FailName)
		if good {
			want = fmt.Sprintf("%q: %v", path, api.FailMissing)
		}
		check(t, "Append", told(d.Append(path, "")), "append "+want)
		check(t, "Cut", told(d.Cut(path, 0)), "cut "+want)
		check(t, "Sync", told(d.Sync(path)), "sync "+want)
		check(t, "Rename", told(d.Rename(path, "b")), "rename "+want)
		check(t, "Remove", told(d.Remove(path)), "remove "+want)
		check(t, "Flip", told(d.Flip(path, 0, 0)), "flip "+want)
		if !good {
			check(t, "Create", told(d.Create(path)), "create "+want)
			check(t, "Mkdir", told(d.Mkdir(path)), "mkdir "+want)
			check(t, "Rename of nothing to it", told(d.Rename("a", path)), `rename "a": no path`)
		}
	}
}

// P3.2, P3.3
func TestFailuresInTheirOrder(t *testing.T) {
	large := strings.Repeat("x", 11)
	read := func(d *disk.Disk, path string, at, n int) error {
		text, err := d.Read(path, at, n)
		check(t, "text beside an error", text, "")
		return err
	}
	all := func(d *disk.Disk, path string) error {
		text, err := d.All(path)
		check(t, "text beside an error", text, "")
		return err
	}
	list := func(d *disk.Disk, dir string) error {
		entries, err := d.List(dir)
		check(t, "entries beside an error", len(entries), 0)
		return err
	}
	for _, c := range []struct {
		want string
		call func(d *disk.Disk) error
	}{
		{`mkdir "": no path`, func(d *disk.Disk) error { return d.Mkdir("") }},
		{`mkdir "d/x": no path`, func(d *disk.Disk) error { return d.Mkdir("d/x") }},
		{`mkdir "d": there already`, func(d *disk.Disk) error { return d.Mkdir("d") }},
		{`mkdir "f": there already`, func(d *disk.Disk) error { return d.Mkdir("f") }},
		{`create "q/x/": no path`, func(d *disk.Disk) error { return d.Create("q/x/") }},
		{`create "q/x": not there`, func(d *disk.Disk) error { return d.Create("q/x") }},
		{`create "f/x": not there`, func(d *disk.Disk) error { return d.Create("f/x") }},
		{`create "f": there already`, func(d *disk.Disk) error { return d.Create("f") }},
		{`create "d": there already`, func(d *disk.Disk) error { return d.Create("d") }},
		{`create "d/x": there already`, func(d *disk.Disk) error { return d.Create("d/x") }},
		{`append "F": no path`, func(d *disk.Disk) error { return d.Append("F", large) }},
		{`append "d": a directory`, func(d *disk.Disk) error { return d.Append("d", large) }},
		{`append "q": not there`, func(d *disk.Disk) error { return d.Append("q", large) }},
		{`append "q/x": not there`, func(d *disk.Disk) error { return d.Append("q/x", large) }},
		{`append "f/x": not there`, func(d *disk.Disk) error { return d.Append("f/x", large) }},
		{`append "d/f": not there`, func(d *disk.Disk) error { return d.Append("d/f", "") }},
		{`append "f": no space`, func(d *disk.Disk) error { return d.Append("f", large) }},
		{`append "h": no space`, func(d *disk.Disk) error { return d.Append("h", "12345", "", "67890", "1") }},
		{`cut "f/": no path`, func(d *disk.Disk) error { return d.Cut("f/", -1) }},
		{`cut "d": a directory`, func(d *disk.Disk) error { return d.Cut("d", -1) }},
		{`cut "q": not there`, func(d *disk.Disk) error { return d.Cut("q", -1) }},
		{`cut "f": out of range`, func(d *disk.Disk) error { return d.Cut("f", -1) }},
		{`cut "f": out of range`, func(d *disk.Disk) error { return d.Cut("f", 9) }},
		{`cut "h": out of range`, func(d *disk.Disk) error { return d.Cut("h", 1) }},
		{`cut "f": out of range`, func(d *disk.Disk) error { return d.Cut("f", math.MinInt) }},
		{`cut "f": out of range`, func(d *disk.Disk) error { return d.Cut("f", math.MaxInt) }},
		{`sync "f f": no path`, func(d *disk.Disk) error { return d.Sync("f f") }},
		{`sync "e": a directory`, func(d *disk.Disk) error { return d.Sync("e") }},
		{`sync "e/x": not there`, func(d *disk.Disk) error { return d.Sync("e/x") }},
		{`rename "": no path`, func(d *disk.Disk) error { return d.Rename("", "q") }},
		{`rename "f": no path`, func(d *disk.Disk) error { return d.Rename("f", "") }},
		{`rename "q": no path`, func(d *disk.Disk) error { return d.Rename("q", "a//b") }},
		{`rename "d": no path`, func(d *disk.Disk) error { return d.Rename("d", "e/d") }},
		{`rename "d": no path`, func(d *disk.Disk) error { return d.Rename("d", "q/d") }},
		{`rename "d": no path`, func(d *disk.Disk) error { return d.Rename("d", "d/x") }},
		{`rename "q": not there`, func(d *disk.Disk) error { return d.Rename("q", "d/x") }},
		{`rename "q": not there`, func(d *disk.Disk) error { return d.Rename("q", "q") }},
		{`rename "q": not there`, func(d *disk.Disk) error { return d.Rename("q", "d") }},
		{`rename "d/q": not there`, func(d *disk.Disk) error { return d.Rename("d/q", "f") }},
		{`rename "f": not there`, func(d *disk.Disk) error { return d.Rename("f", "q/f") }},
		{`rename "f": not there`, func(d *disk.Disk) error { return d.Rename("f", "f/f") }},
		{`rename "f": not there`, func(d *disk.Disk) error { return d.Rename("f", "g/f") }},
		{`rename "f": there already`, func(d *disk.Disk) error { return d.Rename("f", "f") }},
		{`rename "d/x": there already`, func(d *disk.Disk) error { return d.Rename("d/x", "d/x") }},
		{`rename "f": there already`, func(d *disk.Disk) error { return d.Rename("f", "d") }},
		{`rename "d/x": there already`, func(d *disk.Disk) error { return d.Rename("d/x", "e") }},
		{`rename "d": there already`, func(d *disk.Disk) error { return d.Rename("d", "f") }},
		{`rename "d": there already`, func(d *disk.Disk) error { return d.Rename("d", "e") }},
		{`rename "d": there already`, func(d *disk.Disk) error { return d.Rename("d", "d") }},
		{`remove "": no path`, func(d *disk.Disk) error { return d.Remove("") }},
		{`remove "q": not there`, func(d *disk.Disk) error { return d.Remove("q") }},
		{`remove "e/x": not there`, func(d *disk.Disk) error { return d.Remove("e/x") }},
		{`remove "f/x": not there`, func(d *disk.Disk) error { return d.Remove("f/x") }},
		{`remove "x": not there`, func(d *disk.Disk) error { return d.Remove("x") }},
		{`read "f/x/y": no path`, func(d *disk.Disk) error { return read(d, "f/x/y", -1, 0) }},
		{`read "d": a directory`, func(d *disk.Disk) error { return read(d, "d", -1, 0) }},
		{`read "q": not there`, func(d *disk.Disk) error { return read(d, "q", -1, 0) }},
		{`read "f": out of range`, func(d *disk.Disk) error { return read(d, "f", -1, 0) }},
		{`read "f": out of range`, func(d *disk.Disk) error { return read(d, "f", math.MinInt, math.MaxInt) }},
		{`read "f": out of range`, func(d *disk.Disk) error { return read(d, "f", 9, 0) }},
		{`read "f": out of range`, func(d *disk.Disk) error { return read(d, "f", math.MaxInt, 0) }},
		{`read "f": out of range`, func(d *disk.Disk) error { return read(d, "f", math.MaxInt, math.MaxInt) }},
		{`read "f": out of range`, func(d *disk.Disk) error { return read(d, "f", 0, -1) }},
		{`read "f": out of range`, func(d *disk.Disk) error { return read(d, "f", 0, math.MinInt) }},
		{`read "f": out of range`, func(d *disk.Disk) error { return read(d, "f", 0, 9) }},
		{`read "f": out of range`, func(d *disk.Disk) error { return read(d, "f", 8, 1) }},
		{`read "f": out of range`, func(d *disk.Disk) error { return read(d, "f", 5, math.MaxInt) }},
		{`read "h": out of range`, func(d *disk.Disk) error { return read(d, "h", 0, 1) }},
		{`read "": no path`, func(d *disk.Disk) error { return all(d, "") }},
		{`read "d": a directory`, func(d *disk.Disk) error { return all(d, "d") }},
		{`read "d/q": not there`, func(d *disk.Disk) error { return all(d, "d/q") }},
		{`list "d/x": no path`, func(d *disk.Disk) error { return list(d, "d/x") }},
		{`list "d/": no path`, func(d *disk.Disk) error { return list(d, "d/") }},
		{`list "/": no path`, func(d *disk.Disk) error { return list(d, "/") }},
		{`list "f": a directory`, func(d *disk.Disk) error { return list(d, "f") }},
		{`list "q": not there`, func(d *disk.Disk) error { return list(d, "q") }},
		{`list "x": not there`, func(d *disk.Disk) error { return list(d, "x") }},
		{`flip "f/": no path`, func(d *disk.Disk) error { return d.Flip("f/", -1, 1) }},
		{`flip "d": a directory`, func(d *disk.Disk) error { return d.Flip("d", -1, 1) }},
		{`flip "q": not there`, func(d *disk.Disk) error { return d.Flip("q", -1, 1) }},
		{`flip "f": out of range`, func(d *disk.Disk) error { return d.Flip("f", -1, 1) }},
		{`flip "f": out of range`, func(d *disk.Disk) error { return d.Flip("f", 8, 1) }},
		{`flip "h": out of range`, func(d *disk.Disk) error { return d.Flip("h", 0, 1) }},
		{`flip "f": out of range`, func(d *disk.Disk) error { return d.Flip("f", math.MinInt, 1) }},
		{`flip "f": out of range`, func(d *disk.Disk) error { return d.Flip("f", math.MaxInt, 1) }},
	} {
		checkNoEffect(t, c.want, c.call)
	}
}

// unsettled looks as filled does, but has more steps that are not durable.
func unsettled(t *testing.T) *disk.Disk {
	t.Helper()
	d := filled(t)
	must(t, d.Rename("g", "i"), d.Rename("i", "g"), d.Append("f", "12"), d.Cut("f", 8), d.Remove("d/y"), d.Create("d/y"))
	return d
}

// P3.3: checkNoEffect holds a disk with the call against one without it, also behind more steps, a crash and a restart.
func checkNoEffect(t *testing.T, what string, call func(d *disk.Disk) error) {
	t.Helper()
	for names := range 7 {
		for crash := range 6 {
			var views [2]string
			for i, d := range []*disk.Disk{unsettled(t), unsettled(t)} {
				d.Crash(crash)
				if i == 0 {
					check(t, "a rejected call", told(call(d)), what)
				}
				views[i] = view(d)
				views[i] += told(d.Create("j")) + told(d.Append("f", "34")) + told(d.Remove("h")) + told(d.Append("d/x", "5")) + view(d)
				d.Restart(names, []int{3, 1, 4}, true)
				views[i] += view(d)
			}
			if views[0] != views[1] {
				t.Fatalf("%s has an effect:\n%s\nnot\n%s", what, views[0], views[1])
			}
		}
	}
}

// P3.2: with the power off, and of a nil disk, each call fails ahead of all else.
func TestFailOffIsFirst(t *testing.T) {
	off := filled(t)
	off.Crash(1)
	check(t, "the step at which the power goes off", told(off.Mkdir("z")), `mkdir "z": the power is off`)
	zeroOff := &disk.Disk{}
	zeroOff.Crash(1)
	check(t, "the step of a zero disk", told(zeroOff.SyncNames()), `names "": the power is off`)
	for _, d := range []*disk.Disk{off, zeroOff, nil} {
		for _, path := range []string{"f", "d", "d/x", "q", "", "A", "d/x/y"} {
			want := fmt.Sprintf("%q: %v", path, api.FailOff)
			check(t, "Mkdir", told(d.Mkdir(path)), "mkdir "+want)
			check(t, "Create", told(d.Create(path)), "create "+want)
			check(t, "Append", told(d.Append(path, strings.Repeat("x", 100))), "append "+want)
			check(t, "Cut", told(d.Cut(path, -1)), "cut "+want)
			check(t, "Sync", told(d.Sync(path)), "sync "+want)
			check(t, "SyncNames", told(d.SyncNames()), `names "": the power is off`)
			check(t, "Rename", told(d.Rename(path, "A")), "rename "+want)
			check(t, "Rename", told(d.Rename(path, path)), "rename "+want)
			check(t, "Remove", told(d.Remove(path)), "remove "+want)
			text, err := d.Read(path, -1, -1)
			check(t, "Read", text+told(err), "read "+want)
			text, err = d.All(path)
			check(t, "All", text+told(err), "read "+want)
			list, err := d.List(path)
			check(t, "List", told(err), "list "+want)
			check(t, "List", len(list), 0)
			check(t, "Flip", told(d.Flip(path, -1, 1)), "flip "+want)
		}
	}
}

// P3.2
func TestCreateAndMkdir(t *testing.T) {
	d := disk.New(10)
	must(t, d.Mkdir("d"), d.Create("x"), d.Create("d/x"), d.Mkdir("e"), d.Create("e/d"))
	for _, path := range []string{"x", "d/x", "e/d"} {
		checkAll(t, d, path, "")
	}
	list, err := d.List("d")
	check(t, "d", fmt.Sprint(list, err), "[{x false 0}] <nil>")
	check(t, "a directory of a file's name", told(d.Mkdir("x")), `mkdir "x": there already`)
	must(t, d.Remove("x"), d.Mkdir("x"), d.Create("x/x"))
}

// P3.2
func TestAppend(t *testing.T) {
	d := disk.New(10)
	must(t, d.Create("a"), d.Create("b"), d.Append("a"), d.Append("a", ""), d.Append("a", "", "x", "", "yz", "\x00\xff"))
	checkAll(t, d, "a", "xyz\x00\xff")
	check(t, "one byte more than there is room for", told(d.Append("b", "123456")), `append "b": no space`)
	check(t, "one byte more in parts", told(d.Append("b", "123", "456")), `append "b": no space`)
	checkAll(t, d, "b", "")
	must(t, d.Append("b", "123", "45"))
	checkAll(t, d, "b", "12345")
	check(t, "a byte on a full disk", told(d.Append("a", "1")), `append "a": no space`)
	must(t, d.Append("a"), d.Append("b", "", ""), d.Cut("b", 3), d.Append("a", "12"))
	checkAll(t, d, "a", "xyz\x00\xff12")
	must(t, d.Remove("b"), d.Append("a", "345"))
	check(t, "a byte on a full disk", told(d.Append("a", "1")), `append "a": no space`)
}

// P3.2: Rule 4
func TestArgumentsAreNotKept(t *testing.T) {
	d := disk.New(100)
	must(t, d.Create("a"))
	parts := append(make([]string, 0, 4), "one", "two")
	must(t, d.Append("a", parts...))
	check(t, "the parts", fmt.Sprintf("%q", parts[:4]), `["one" "two" "" ""]`)
	parts[0] = "changed"
	data := append(make([]int, 0, 4), 4)
	checkAll(t, d, "a", "onetwo")
	d.Restart(1, data, true)
	check(t, "the data", data[:4], "[4 0 0 0]")
	data[0] = 0
	checkAll(t, d, "a", "onet\x00\x00")
}

// P3.2
func TestCut(t *testing.T) {
	d := disk.New(10)
	must(t, d.Create("a"), d.Append("a", "abcdef"), d.Cut("a", 6))
	checkAll(t, d, "a", "abcdef")
	must(t, d.Cut("a", 4))
	checkAll(t, d, "a", "abcd")
	check(t, "a Cut behind the end", told(d.Cut("a", 5)), `cut "a": out of range`)
	must(t, d.Append("a", "xy"))
	checkAll(t, d, "a", "abcdxy")
	must(t, d.Cut("a", 0), d.Cut("a", 0))
	checkAll(t, d, "a", "")
	check(t, "a Cut behind the end", told(d.Cut("a", 1)), `cut "a": out of range`)
}

// P3.2
func TestRead(t *testing.T) {
	d := disk.New(10)
	must(t, d.Create("a"), d.Append("a", "abcdef"), d.Create("b"))
	for at := range 7 {
		for n := range 7 - at {
			text, err := d.Read("a", at, n)
			if text != "abcdef"[at:at+n] || err != nil {
				t.Errorf("Read(a, %d, %d) is %q, %v", at, n, text, err)
			}
		}
		_, err := d.Read("a", at, 7-at)
		check(t, "a byte more", told(err), `read "a": out of range`)
	}
	text, err := d.Read("b", 0, 0)
	check(t, "nothing of an empty file", text+told(err), "ok")
}

// P3.2
func TestReadTellsWhatWasThere(t *testing.T) {
	d := disk.New(10)
	must(t, d.Create("a"), d.Append("a", "abcdef"))
	part, _ := d.Read("a", 1, 4)
	all, _ := d.All("a")
	must(t, d.Flip("a", 2, 255), d.Cut("a", 1), d.Append("a", "zzzzzz"))
	check(t, "what was read before", part+" "+all, "bcde abcdef")
}

// P3.2
func TestRenameOfFiles(t *testing.T) {
	d := filled(t)
	must(t, d.Rename("f", "i"))
	checkMissing(t, d, "f")
	checkAll(t, d, "i", "abcdefgh")
	must(t, d.Rename("i", "g"))
	checkMissing(t, d, "i")
	checkAll(t, d, "g", "abcdefgh")
	check(t, "used, without the bytes that g had", d.Used(), 13)
	must(t, d.Rename("g", "d/y"))
	checkAll(t, d, "d/y", "abcdefgh")
	must(t, d.Rename("d/x", "d/y"))
	checkAll(t, d, "d/y", "12345")
	checkMissing(t, d, "d/x")
	must(t, d.Rename("d/y", "e/z"), d.Rename("e/z", "z"))
	checkAll(t, d, "z", "12345")
	must(t, d.Rename("z", "h"), d.Append("h", "6"))
	checkAll(t, d, "h", "123456")
	check(t, "used", d.Used(), 6)
	check(t, "files", view(d), "off false used 6 top ok\n{Name:d Dir:true Size:0}\nok\n{Name:e Dir:true Size:0}\nok\n{Name:h Dir:false Size:6}\n\"123456\" ok\n")
}

// P3.2
func TestRenameOfDirectories(t *testing.T) {
	d := filled(t)
	must(t, d.Rename("d", "k"))
	checkAll(t, d, "k/x", "12345")
	checkAll(t, d, "k/y", "")
	checkMissing(t, d, "d/x")
	_, err := d.List("d")
	check(t, "the old name", told(err), `list "d": not there`)
	check(t, "used", d.Used(), 20)
	check(t, "a file in the old one", told(d.Create("d/z")), `create "d/z": not there`)
	must(t, d.Create("d"), d.Create("k/z"), d.Remove("e"), d.Rename("k", "e"))
	list, err := d.List("e")
	check(t, "e", fmt.Sprint(list, err), "[{x false 5} {y false 0} {z false 0}] <nil>")
}

// P3.2
func TestRemove(t *testing.T) {
	d := filled(t)
	must(t, d.Remove("f"))
	checkMissing(t, d, "f")
	check(t, "used", d.Used(), 12)
	must(t, d.Remove("d/x"), d.Create("d/x"))
	checkAll(t, d, "d/x", "")
	must(t, d.Append("d/x", "1"), d.Remove("d"))
	check(t, "used", d.Used(), 7)
	checkMissing(t, d, "d/x")
	checkMissing(t, d, "d")
	check(t, "again", told(d.Remove("d")), `remove "d": not there`)
	must(t, d.Mkdir("d"))
	list, err := d.List("d")
	check(t, "a new directory of this name", fmt.Sprint(list, err), "[] <nil>")
}

// P3.2
func TestFlip(t *testing.T) {
	for _, mask := range []byte{0, 1, 0x20, 0x80, 0xff} {
		d := filled(t)
		must(t, d.Flip("f", 0, mask), d.Flip("f", 7, mask))
		checkAll(t, d, "f", string([]byte{'a' ^ mask})+"bcdefg"+string([]byte{'h' ^ mask}))
		must(t, d.Flip("f", 0, mask), d.Flip("f", 7, mask))
		checkAll(t, d, "f", "abcdefgh")
	}
}

// P3.4
func TestUsedAndOff(t *testing.T) {
	d := disk.New(20)
	used := func(want int) {
		t.Helper()
		check(t, "used", fmt.Sprint(d.Used(), d.Off()), fmt.Sprint(want, false))
	}
	used(0)
	must(t, d.Mkdir("d"), d.Create("a"), d.Create("d/b"))
	used(0)
	must(t, d.Append("a", "1234"), d.Append("d/b", "56", "789"))
	used(9)
	must(t, d.Cut("a", 1))
	used(6)
	must(t, d.Sync("a"), d.SyncNames(), d.Rename("d", "e"), d.Rename("a", "b"), d.Flip("b", 0, 1))
	used(6)
	must(t, d.Create("c"), d.Append("c", "ab"), d.Rename("c", "b"))
	used(7)
	must(t, d.Remove("e"))
	used(2)
	_ = d.Append("b", strings.Repeat("x", 19))
	used(2)
	d.Crash(2)
	used(2)
	must(t, d.Append("b", "c"))
	used(3)
	check(t, "the second step", told(d.Append("b", "c")), `append "b": the power is off`)
	check(t, "with the power off", fmt.Sprint(d.Used(), d.Off()), "0 true")
	d.Restart(0, nil, false)
	used(1)
	var none *disk.Disk
	none.Crash(1)
	none.Restart(1, []int{1}, true)
	check(t, "a nil disk", fmt.Sprint(none.Used(), none.Off()), "0 true")
}

// P3.5
func TestListIsInOrder(t *testing.T) {
	d := disk.New(100)
	names := []string{"m", "a.b", "a-b", "a", "ab", "0", "z", "a0", "-", ".", "9", "b", "aa", "zz", strings.Repeat("z", 32)}
	for i, name := range names {
		if i%3 == 0 {
			must(t, d.Mkdir(name), d.Create(name+"/z"), d.Create(name+"/-"), d.Append(name+"/z", name))
			continue
		}
		must(t, d.Create(name), d.Append(name, strings.Repeat("x", i%3)))
	}
	var want []disk.Entry
	for i, name := range names {
		want = append(want, disk.Entry{Name: name, Dir: i%3 == 0, Size: i % 3})
	}
	slices.SortFunc(want, func(a, b disk.Entry) int { return strings.Compare(a.Name, b.Name) })
	list, err := d.List("")
	check(t, "the top level", fmt.Sprint(list, err), fmt.Sprint(want, nil))
	list, err = d.List("a-b")
	check(t, "a file's name", told(err), `list "a-b": a directory`)
	check(t, "a file's name", len(list), 0)
	list, err = d.List("a")
	check(t, "a directory", fmt.Sprint(list, err), "[{- false 0} {z false 1}] <nil>")
}

// P3.5
func TestListIsNew(t *testing.T) {
	d := filled(t)
	for _, dir := range []string{"", "d"} {
		before := view(d)
		first, _ := d.List(dir)
		second, _ := d.List(dir)
		for i := range first {
			first[i] = disk.Entry{Name: "changed", Dir: true, Size: 77}
		}
		first = append(first, disk.Entry{Name: "more"})
		third, _ := d.List(dir)
		check(t, "the list that was told before", second, third)
		check(t, "the disk", view(d), before)
		check(t, "the changed list", len(first), len(second)+1)
	}
}

// P3.6: the chapter's examples
func TestExamples(t *testing.T) {
	start := func(syncNames bool) *disk.Disk {
		d := disk.New(100)
		must(t, d.Create("a"))
		if syncNames {
			must(t, d.SyncNames())
		}
		must(t, d.Append("a", "xyz"), d.Sync("a"), d.Append("a", "uv"))
		return d
	}
	d := start(false)
	d.Restart(0, nil, false)
	checkMissing(t, d, "a")
	d = start(true)
	d.Restart(0, nil, false)
	checkAll(t, d, "a", "xyz")
	d = start(true)
	d.Restart(0, []int{1}, false)
	checkAll(t, d, "a", "xyzu")
	d = start(true)
	d.Restart(0, []int{1}, true)
	checkAll(t, d, "a", "xyzu\x00")
	d.Crash(1)
	for range 2 {
		check(t, "Append after Crash(1)", told(d.Append("a", "x")), `append "a": the power is off`)
	}
	check(t, "SyncNames after Crash(1)", told(d.SyncNames()), `names "": the power is off`)
}

// P3.6: with the power on or off
func TestRestartKeepsTheFirstNamesSteps(t *testing.T) {
	after := []string{
		"[{a false 1} {d true 0} {f false 2}]",
		"[{a false 1} {d true 0} {e true 0} {f false 2}]",
		"[{a false 1} {b false 0} {d true 0} {e true 0} {f false 2}]",
		"[{a false 1} {b false 0} {e true 0} {f false 2} {g true 0}]",
		"[{a false 1} {e true 0} {f false 0} {g true 0}]",
		"[{e true 0} {f false 0} {g true 0}]",
	}
	steps := len(after) - 1
	for names, kept := range map[int]int{
		0: 0, 1: 1, 2: 2, 3: 3, 4: 4, 5: 5, 6: 0, 7: 1, 11: 5, 12: 0,
		-1: 0, -6: 0, -7: 0, math.MinInt: 0, math.MaxInt: math.MaxInt % (steps + 1), math.MaxInt - 1: (math.MaxInt - 1) % (steps + 1),
	} {
		for _, off := range []bool{false, true} {
			d := disk.New(100)
			must(t, d.Mkdir("d"), d.Create("d/x"), d.Create("f"), d.Create("a"), d.SyncNames())
			must(t, d.Append("f", "12"), d.Append("a", "3"), d.Append("d/x", "45"), d.Sync("f"), d.Sync("a"), d.Sync("d/x"))
			must(t, d.Mkdir("e"), d.Create("b"), d.Rename("d", "g"), d.Rename("b", "f"), d.Remove("a"))
			if off {
				d.Crash(1)
				check(t, "the step that is not executed", told(d.Mkdir("q")), `mkdir "q": the power is off`)
			}
			d.Restart(names, nil, false)
			list, err := d.List("")
			check(t, fmt.Sprintf("Restart(%d)", names), fmt.Sprint(list, err), after[kept]+" <nil>")
			dir := "d"
			if kept >= 3 {
				dir = "g"
			}
			checkAll(t, d, dir+"/x", "45")
			before := view(d)
			d.Restart(5, []int{1}, true)
			check(t, "all of that is durable", view(d), before)
		}
	}
}

// P3.6
func TestRestartKeepsTheFirstUnits(t *testing.T) {
	// Four bytes, a Cut, one byte, none, a Cut that changes nothing, two bytes: 9 units.
	after := []string{"ab", "abw", "abwx", "abwxy", "abwxyz", "a", "a1", "a1", "a12", "a123"}
	zeros := []string{"ab", "abw", "abwx", "abwxy", "abwxyz", "a", "a1", "a1\x00\x00", "a12\x00", "a123"}
	for units := range len(after) {
		for _, n := range []int{units, units + 10, units + 10000, units - 10} {
			for _, fill := range []bool{false, true} {
				d := disk.New(100)
				must(t, d.Create("a"), d.SyncNames(), d.Append("a", "ab"), d.Sync("a"))
				must(t, d.Append("a", "wx", "y"), d.Append("a", "z"), d.Cut("a", 1), d.Append("a", "1"), d.Append("a"), d.Cut("a", 2), d.Append("a", "23"))
				d.Restart(0, []int{n}, fill)
				want := after[max(n, 0)%10]
				if fill {
					want = zeros[max(n, 0)%10]
				}
				checkAll(t, d, "a", want)
				check(t, "used", d.Used(), len(want))
				d.Restart(0, []int{n + 1}, true)
				checkAll(t, d, "a", want)
			}
		}
	}
}

// P3.6
func TestRestartTakesDataInTheOrderOfThePaths(t *testing.T) {
	paths := []string{"a-x", "a.x", "a/-", "a/b", "a0", "b"}
	// A file without steps counts as one, a file that is no more does not.
	all := slices.Sorted(slices.Values(append([]string{"a/a"}, paths...)))
	for _, data := range [][]int{nil, {}, {2}, {1, 2}, {1, 2, 3}, {-1, 1}, {0, 1, 2, 3, 4, 5}, {5, 4, 3, 2, 1, 0, 9, 9}, {math.MinInt, math.MaxInt, 4, -4}} {
		d := disk.New(100)
		must(t, d.Mkdir("a"), d.Mkdir("zz"))
		for i := range paths {
			path := paths[(i*5+2)%len(paths)]
			must(t, d.Create(path), d.Append(path, "1234"))
		}
		must(t, d.Create("a/a"), d.Create("0"), d.Append("0", "xyz"), d.Remove("0"), d.SyncNames())
		d.Restart(0, data, false)
		for i, path := range all {
			kept := 0
			if len(data) > 0 && data[i%len(data)] >= 0 {
				kept = data[i%len(data)] % 5
			}
			if path == "a/a" {
				kept = 0
			}
			checkAll(t, d, path, "1234"[:kept])
		}
	}
}

// P3.6: bytes steps belong to their file, whatever path it has later.
func TestBytesStepsFollowTheirFile(t *testing.T) {
	build := func() *disk.Disk {
		d := disk.New(100)
		must(t, d.Create("a"), d.Create("b"), d.Mkdir("d"), d.SyncNames())
		must(t, d.Append("a", "12"), d.Sync("a"), d.Append("b", "345"), d.Append("a", "67"))
		return d
	}
	d := build()
	must(t, d.Rename("a", "z"))
	d.Restart(1, []int{3, 1}, false) // b, z
	checkAll(t, d, "b", "345")
	checkAll(t, d, "z", "126")
	d = build()
	must(t, d.Rename("a", "z"), d.Append("z", "89"))
	d.Restart(0, []int{3}, false) // the Rename is lost, not what was appended behind it
	checkAll(t, d, "a", "12678")
	d = build()
	must(t, d.Rename("a", "b"), d.Append("b", "89"))
	d.Restart(0, []int{4, 2}, false)
	checkAll(t, d, "a", "126789")
	checkAll(t, d, "b", "34")
	d = build()
	must(t, d.Rename("a", "b"), d.Append("b", "89"), d.Create("a"), d.Append("a", "new"))
	d.Restart(2, []int{2, 2}, true)
	checkAll(t, d, "a", "ne\x00")
	checkAll(t, d, "b", "1267\x00\x00")
	d = build()
	must(t, d.Remove("a"), d.Create("a"), d.Append("a", "new"), d.Sync("a"))
	d.Restart(0, []int{1}, false)
	checkAll(t, d, "a", "126")
	d = build()
	must(t, d.Rename("b", "d/b"), d.Remove("d"), d.Mkdir("d"))
	d.Restart(1, []int{0, 2}, false)
	checkAll(t, d, "d/b", "34")
	d = build()
	must(t, d.Create("n"), d.Append("n", "xyz"), d.Sync("n"))
	d.Restart(0, []int{3}, false) // the bytes were durable, the name not
	checkMissing(t, d, "n")
	d = build()
	must(t, d.Create("n"), d.Append("n", "xyz"), d.Sync("n"), d.Append("n", "u"))
	d.Restart(1, []int{0}, false)
	checkAll(t, d, "n", "xyz")
}

// P3.6
func TestZeros(t *testing.T) {
	build := func() *disk.Disk {
		d := disk.New(10)
		must(t, d.Create("a"), d.SyncNames(), d.Append("a", "ab"), d.Sync("a"), d.Append("a", "cd"), d.Cut("a", 1), d.Append("a", "xyz"))
		return d // units: 2, 1, 3
	}
	for units, want := range []string{"ab", "abc", "abcd", "a\x00\x00\x00", "ax\x00\x00", "axy\x00", "axyz"} {
		d := build()
		d.Restart(0, []int{units}, true)
		checkAll(t, d, "a", want)
	}
	d := disk.New(8)
	must(t, d.Create("a"), d.Create("b"), d.SyncNames(), d.Append("a", "12345678"), d.Remove("a"), d.Append("b", "12345678"))
	d.Restart(0, nil, true)
	check(t, "more than the capacity", d.Used(), 16)
	checkAll(t, d, "a", strings.Repeat("\x00", 8))
	check(t, "no part on a disk that is too full", told(d.Append("a")), `append "a": no space`)
	check(t, "an empty part on a disk that is too full", told(d.Append("b", "")), `append "b": no space`)
	must(t, d.Remove("a"), d.Append("b"))
	check(t, "used", d.Used(), 8)
}

// P3.6
func TestSyncIsOfOneFile(t *testing.T) {
	d := disk.New(100)
	must(t, d.Create("a"), d.Create("b"), d.SyncNames(), d.Append("a", "1"), d.Append("b", "2"), d.Sync("a"), d.Append("a", "3"))
	d.Restart(0, nil, false)
	checkAll(t, d, "a", "1")
	checkAll(t, d, "b", "")
	must(t, d.Append("a", "45"), d.Cut("a", 2), d.Sync("a"), d.Append("b", "6"), d.Create("c"))
	d.Restart(0, nil, false)
	checkAll(t, d, "a", "14")
	checkAll(t, d, "b", "")
	checkMissing(t, d, "c")
}

// P3.6
func TestFlipMakesTheBytesDurable(t *testing.T) {
	d := filled(t)
	must(t, d.Append("f", "ij"), d.Cut("f", 9), d.Append("d/x", "6"), d.Flip("f", 8, 1), d.Append("f", "xyz"))
	d.Restart(0, nil, false)
	checkAll(t, d, "f", "abcdefgh"+string([]byte{'i' ^ 1}))
	checkAll(t, d, "d/x", "")
	must(t, d.Append("f", "k"), d.Flip("f", 0, 0), d.Create("n"), d.Append("n", "q"), d.Flip("n", 0, 1))
	d.Restart(0, nil, true)
	checkAll(t, d, "f", "abcdefgh"+string([]byte{'i' ^ 1})+"k")
	checkMissing(t, d, "n") // its bytes were made durable, its name not
}

// P3.6: Crash
func TestCrash(t *testing.T) {
	steps := []func(d *disk.Disk) error{
		func(d *disk.Disk) error { return d.Mkdir("m") },
		func(d *disk.Disk) error { return d.Create("m/n") },
		func(d *disk.Disk) error { return d.Append("m/n", "12") },
		func(d *disk.Disk) error { return d.Append("m/n") },
		func(d *disk.Disk) error { return d.Cut("m/n", 1) },
		func(d *disk.Disk) error { return d.Cut("m/n", 1) },
		func(d *disk.Disk) error { return d.Sync("m/n") },
		func(d *disk.Disk) error { return d.Sync("m/n") },
		func(d *disk.Disk) error { return d.SyncNames() },
		func(d *disk.Disk) error { return d.SyncNames() },
		func(d *disk.Disk) error { return d.Rename("m", "o") },
		func(d *disk.Disk) error { return d.Remove("o") },
	}
	for n := 1; n <= len(steps); n++ {
		d, plain := filled(t), filled(t)
		d.Crash(n)
		for i, step := range steps {
			_, _ = d.Read("f", 0, 1) // neither what reads, nor Flip, nor what is rejected is a step
			_, _ = d.List("")
			_ = d.Flip("f", 0, 0)
			_ = d.Mkdir("d")
			_ = d.Append("h", strings.Repeat("x", 29))
			_ = d.Rename("f", "f")
			err := step(d)
			if i+1 < n {
				must(t, err, step(plain))
				check(t, "the disk", view(d), view(plain))
				continue
			}
			if e, ok := err.(*api.FileError); !ok || e.Err != api.FailOff || !d.Off() {
				t.Fatalf("after Crash(%d), step %d: %v", n, i+1, err)
			}
		}
		for _, x := range []*disk.Disk{d, plain} {
			x.Restart(100, []int{1}, false)
		}
		must(t, plain.Flip("f", 0, 0))
		check(t, "what is left", view(d), view(plain))
		for range 3 {
			must(t, d.SyncNames()) // no crash is pending
		}
	}
}

// P3.6: Crash
func TestCrashThatIsSpecifiedAnew(t *testing.T) {
	for _, n := range []int{0, -1, math.MinInt} {
		d := filled(t)
		d.Crash(1)
		d.Crash(n)
		for range 5 {
			must(t, d.SyncNames())
		}
		d.Crash(2)
		must(t, d.SyncNames())
		d.Crash(n)
		must(t, d.SyncNames(), d.SyncNames())
	}
	d := filled(t)
	d.Crash(1)
	d.Crash(3)
	must(t, d.SyncNames(), d.SyncNames())
	check(t, "the third step", told(d.SyncNames()), `names "": the power is off`)
	d.Crash(5)
	d.Restart(0, nil, false)
	for range 8 {
		must(t, d.SyncNames())
	}
	d.Crash(1)
	d.Restart(0, nil, false)
	must(t, d.SyncNames())
	d.Crash(math.MaxInt)
	must(t, d.SyncNames(), d.SyncNames())
	d.Crash(2)
	must(t, d.SyncNames())
	check(t, "the second step", told(d.SyncNames()), `names "": the power is off`)
}

// P3.6
func TestRestartBehindRestart(t *testing.T) {
	d := filled(t)
	must(t, d.Create("k"), d.Append("k", "123"), d.Append("f", "ij"))
	d.Restart(1, []int{0, 0, 1, 2, 3, 2}, false) // d/x, d/y, f, g, h, k
	want := view(d)
	checkAll(t, d, "f", "abcdefghi")
	checkAll(t, d, "k", "12")
	checkAll(t, d, "g", "zy")
	for i := range 4 {
		d.Restart(i, []int{i}, i%2 == 0)
		check(t, "again", view(d), want)
	}
	must(t, d.Append("k", "4"), d.Remove("f"))
	d.Restart(0, []int{0, 0, 0, 0, 0, 1}, false)
	checkAll(t, d, "k", "124")
	checkAll(t, d, "f", "abcdefghi")
	d.Crash(1)
	d.Restart(0, nil, false)
	d.Restart(0, nil, false)
	check(t, "the power", d.Off(), false)
}

// P3.7, P2
func TestDisksAreIndependent(t *testing.T) {
	s := sequence(99)
	first, second := disk.New(50), disk.New(50)
	firstModel, secondModel := newModel(50), newModel(50)
	for range 3000 {
		d, m := first, firstModel
		if s.below(2) == 0 {
			d, m = second, secondModel
		}
		name, got, want := s.callBoth(d, m)
		check(t, name, got, want)
		check(t, name, view(first)+view(second), view(firstModel)+view(secondModel))
	}
}

// P1
func TestEveryCallReturns(t *testing.T) {
	numbers := []int{math.MinInt, math.MinInt + 1, -1, 0, 1, 2, 7, 8, 9, math.MaxInt - 1, math.MaxInt}
	paths := []string{"", "a", "d", "d/a", "/", "//", "d/", "\x00", "\xff", "é", strings.Repeat("a", 1000), strings.Repeat("/", 1000), "d/" + strings.Repeat("a", 1000)}
	for _, make := range []func() *disk.Disk{
		func() *disk.Disk { return nil },
		func() *disk.Disk { return &disk.Disk{} },
		func() *disk.Disk { return disk.New(math.MinInt) },
		func() *disk.Disk { return filled(t) },
		func() *disk.Disk { d := filled(t); d.Crash(1); _ = d.SyncNames(); return d },
	} {
		for _, n := range numbers {
			for _, path := range paths {
				d := make()
				callAll(d, path, n, numbers)
				d.Restart(n, numbers, true)
				callAll(d, path, n, numbers)
				d.Crash(n)
				callAll(d, path, n, numbers)
				d.Restart(n, nil, false)
				_, _ = d.Used(), d.Off()
			}
		}
	}
}

func callAll(d *disk.Disk, path string, n int, numbers []int) {
	_, _, _, _ = d.Mkdir(path), d.Create(path), d.Append(path), d.Append(path, "", "xy", path)
	for _, m := range numbers {
		_, _ = d.Read(path, n, m)
	}
	_, _ = d.All(path)
	_, _ = d.List(path)
	_, _, _, _ = d.Flip(path, n, 255), d.Cut(path, n), d.Sync(path), d.SyncNames()
	_, _, _, _ = d.Rename(path, "z"), d.Rename("z", path), d.Remove(path), d.Remove("z")
}

// P1: a zero disk is an empty one without room, as New(0) is.
func TestZeroDisk(t *testing.T) {
	for seed := range 20 {
		s := sequence(seed + 1000)
		d, m := &disk.Disk{}, newModel(0)
		check(t, "a zero disk", view(d), view(m))
		for range 100 {
			name, got, want := s.callBoth(d, m)
			check(t, name, got, want)
			check(t, name, view(d), view(m))
		}
	}
}
