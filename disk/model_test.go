package disk_test

import (
	"errors"
	"fmt"
	"math"
	"sort"
	"strings"

	"almanac/api"
	"almanac/disk"
)

// fileSystem is what a disk and its model have in common.
type fileSystem interface {
	Mkdir(dir string) error
	Create(path string) error
	Append(path string, parts ...string) error
	Cut(path string, size int) error
	Sync(path string) error
	SyncNames() error
	Rename(from, to string) error
	Remove(path string) error
	Read(path string, at, n int) (string, error)
	All(path string) (string, error)
	List(dir string) ([]disk.Entry, error)
	Used() int
	Off() bool
	Crash(n int)
	Restart(names int, data []int, zeros bool)
	Flip(path string, at int, mask byte) error
}

// The model follows the words of the chapter: it keeps the durable state and all steps behind it, and works each current state out from these anew.

type modelNames struct {
	op       string
	path, to string
	number   int // of the file that a create made
}

type modelBytes struct {
	isCut bool
	size  int
	text  string
}

func (s modelBytes) units() int {
	if s.isCut {
		return 1
	}
	return len(s.text)
}

type modelFile struct {
	durable string
	steps   []modelBytes
}

func (f *modelFile) now() string {
	units := 0
	for _, step := range f.steps {
		units += step.units()
	}
	return f.after(units)
}

// after has the first units of the steps.
func (f *modelFile) after(units int) string {
	text := f.durable
	for _, step := range f.steps {
		switch {
		case step.isCut && units > 0:
			text = text[:step.size]
			units--
		case !step.isCut:
			kept := min(units, len(step.text))
			text += step.text[:kept]
			units -= kept
		default:
			return text
		}
		if units == 0 {
			return text
		}
	}
	return text
}

// lostAreAppends tells if no Cut lies behind the first units.
func (f *modelFile) lostAreAppends(units int) bool {
	at := 0
	for _, step := range f.steps {
		at += step.units()
		if step.isCut && at > units {
			return false
		}
	}
	return true
}

const aFolder = -1

type model struct {
	capacity int
	durable  map[string]int // by path: a file's number, or aFolder
	names    []modelNames
	files    []*modelFile
	off      bool
	crash    int
}

func newModel(capacity int) *model {
	return &model{capacity: max(0, min(capacity, api.MaxDisk)), durable: map[string]int{}}
}

// itemsAfter are the durable items with these names steps.
func (m *model) itemsAfter(steps []modelNames) map[string]int {
	items := map[string]int{}
	for path, number := range m.durable {
		items[path] = number
	}
	for _, step := range steps {
		items = step.on(items)
	}
	return items
}

func (s modelNames) on(items map[string]int) map[string]int {
	result := map[string]int{}
	for path, number := range items {
		rest, inside := strings.CutPrefix(path, s.path+"/")
		switch {
		case s.op == "remove" && (path == s.path || inside):
		case s.op == "rename" && path == s.path:
			result[s.to] = number
		case s.op == "rename" && inside:
			result[s.to+"/"+rest] = number
		case s.op == "rename" && path == s.to:
		default:
			result[path] = number
		}
	}
	if s.op == "mkdir" || s.op == "create" {
		result[s.path] = s.number
	}
	return result
}

func (m *model) items() map[string]int {
	return m.itemsAfter(m.names)
}

// failed is the error for the first of these failures that applies; each comes with whether it does.
func failed(op, path string, pairs ...any) error {
	for i := 0; i < len(pairs); i += 2 {
		if pairs[i].(bool) {
			return &api.FileError{Op: op, Path: path, Err: pairs[i+1].(error)}
		}
	}
	return nil
}

func modelName(name string) bool {
	return len(name) >= 1 && len(name) <= 32 && strings.Trim(name, "abcdefghijklmnopqrstuvwxyz0123456789.-") == "" && !strings.ContainsFunc(name, func(r rune) bool {
		return !strings.ContainsRune("abcdefghijklmnopqrstuvwxyz0123456789.-", r)
	})
}

func modelPath(path string) bool {
	parts := strings.Split(path, "/")
	return len(parts) == 1 && modelName(parts[0]) || len(parts) == 2 && modelName(parts[0]) && modelName(parts[1])
}

func has(items map[string]int, path string) bool {
	_, ok := items[path]
	return ok
}

func hasFolder(items map[string]int, path string) bool {
	number, ok := items[path]
	return ok && number == aFolder
}

// lacksFolder tells if the path contains a directory that does not exist.
func lacksFolder(items map[string]int, path string) bool {
	dir, _, inside := strings.Cut(path, "/")
	return inside && !hasFolder(items, dir)
}

// stepFails is what the power does to a step that nothing rejects.
func (m *model) stepFails(op, path string) error {
	if m.crash > 0 {
		m.crash--
		if m.crash == 0 {
			m.off = true
			return failed(op, path, true, api.FailOff)
		}
	}
	return nil
}

func (m *model) change(step modelNames) error {
	if err := m.stepFails(step.op, step.path); err != nil {
		return err
	}
	m.names = append(m.names, step)
	return nil
}

func (m *model) Mkdir(dir string) error {
	items := m.items()
	if err := failed("mkdir", dir, m.off, api.FailOff, !modelName(dir), api.FailName, has(items, dir), api.FailExists); err != nil {
		return err
	}
	return m.change(modelNames{op: "mkdir", path: dir, number: aFolder})
}

func (m *model) Create(path string) error {
	items := m.items()
	if err := failed("create", path, m.off, api.FailOff, !modelPath(path), api.FailName, lacksFolder(items, path), api.FailMissing, has(items, path), api.FailExists); err != nil {
		return err
	}
	number := len(m.files)
	if err := m.change(modelNames{op: "create", path: path, number: number}); err != nil {
		return err
	}
	m.files = append(m.files, &modelFile{})
	return nil
}

// open finds a file for an operation on its bytes.
func (m *model) open(op, path string) (*modelFile, error) {
	items := m.items()
	if err := failed(op, path, m.off, api.FailOff, !modelPath(path), api.FailName, hasFolder(items, path), api.FailKind, !has(items, path), api.FailMissing); err != nil {
		return nil, err
	}
	return m.files[items[path]], nil
}

func (m *model) Append(path string, parts ...string) error {
	f, err := m.open("append", path)
	if err != nil {
		return err
	}
	text := strings.Join(parts, "")
	if err := failed("append", path, m.Used()+len(text) > m.capacity, api.FailSpace); err != nil {
		return err
	}
	if err := m.stepFails("append", path); err != nil {
		return err
	}
	f.steps = append(f.steps, modelBytes{text: text})
	return nil
}

func (m *model) Cut(path string, size int) error {
	f, err := m.open("cut", path)
	if err != nil {
		return err
	}
	if err := failed("cut", path, size < 0 || size > len(f.now()), api.FailRange); err != nil {
		return err
	}
	if err := m.stepFails("cut", path); err != nil {
		return err
	}
	f.steps = append(f.steps, modelBytes{isCut: true, size: size})
	return nil
}

func (f *modelFile) settle() {
	*f = modelFile{durable: f.now()}
}

func (m *model) Sync(path string) error {
	f, err := m.open("sync", path)
	if err != nil {
		return err
	}
	if err := m.stepFails("sync", path); err != nil {
		return err
	}
	f.settle()
	return nil
}

func (m *model) SyncNames() error {
	if err := failed("names", "", m.off, api.FailOff); err != nil {
		return err
	}
	if err := m.stepFails("names", ""); err != nil {
		return err
	}
	m.durable = m.items()
	m.names = nil
	return nil
}

func (m *model) Rename(from, to string) error {
	items := m.items()
	err := failed("rename", from, m.off, api.FailOff,
		!modelPath(from) || !modelPath(to), api.FailName,
		hasFolder(items, from) && !modelName(to), api.FailName,
		!has(items, from), api.FailMissing,
		lacksFolder(items, to), api.FailMissing,
		has(items, to) && (hasFolder(items, to) || hasFolder(items, from) || from == to), api.FailExists)
	if err != nil {
		return err
	}
	return m.change(modelNames{op: "rename", path: from, to: to})
}

func (m *model) Remove(path string) error {
	items := m.items()
	if err := failed("remove", path, m.off, api.FailOff, !modelPath(path), api.FailName, !has(items, path), api.FailMissing); err != nil {
		return err
	}
	return m.change(modelNames{op: "remove", path: path})
}

func (m *model) Read(path string, at, n int) (string, error) {
	f, err := m.open("read", path)
	if err != nil {
		return "", err
	}
	text := f.now()
	if at < 0 || at > len(text) || n < 0 || n > len(text[at:]) {
		return "", failed("read", path, true, api.FailRange)
	}
	return text[at:][:n], nil
}

func (m *model) All(path string) (string, error) {
	f, err := m.open("read", path)
	if err != nil {
		return "", err
	}
	return f.now(), nil
}

func (m *model) List(dir string) ([]disk.Entry, error) {
	items := m.items()
	err := failed("list", dir, m.off, api.FailOff, dir != "" && !modelName(dir), api.FailName,
		has(items, dir) && !hasFolder(items, dir), api.FailKind,
		dir != "" && !hasFolder(items, dir), api.FailMissing)
	if err != nil {
		return nil, err
	}
	var all []disk.Entry
	for path, number := range items {
		parent, name, inside := strings.Cut(path, "/")
		if !inside {
			parent, name = "", path
		}
		switch {
		case parent != dir:
		case number == aFolder:
			all = append(all, disk.Entry{Name: name, Dir: true})
		default:
			all = append(all, disk.Entry{Name: name, Size: len(m.files[number].now())})
		}
	}
	sort.Slice(all, func(i, j int) bool { return all[i].Name < all[j].Name })
	return all, nil
}

func (m *model) Used() int {
	total := 0
	for _, number := range m.items() {
		if number != aFolder && !m.off {
			total += len(m.files[number].now())
		}
	}
	return total
}

func (m *model) Off() bool { return m.off }

func (m *model) Crash(n int) { m.crash = max(n, 0) }

func (m *model) Restart(names int, data []int, zeros bool) {
	kept := 0
	if names >= 0 {
		kept = names % (len(m.names) + 1)
	}
	m.durable = m.itemsAfter(m.names[:kept])
	m.names = nil
	var paths []string
	for path, number := range m.durable {
		if number != aFolder {
			paths = append(paths, path)
		}
	}
	sort.Strings(paths)
	for i, path := range paths {
		f := m.files[m.durable[path]]
		u := 0
		for _, step := range f.steps {
			u += step.units()
		}
		kept := 0
		if len(data) > 0 && data[i%len(data)] >= 0 {
			kept = data[i%len(data)] % (u + 1)
		}
		text := f.after(kept)
		if zeros && f.lostAreAppends(kept) {
			text += strings.Repeat("\x00", u-kept)
		}
		*f = modelFile{durable: text}
	}
	m.off, m.crash = false, 0
}

func (m *model) Flip(path string, at int, mask byte) error {
	f, err := m.open("flip", path)
	if err != nil {
		return err
	}
	text := []byte(f.now())
	if at < 0 || at >= len(text) {
		return failed("flip", path, true, api.FailRange)
	}
	text[at] ^= mask
	*f = modelFile{durable: string(text)}
	return nil
}

// told writes an error as its fields; only a *api.FileError that nothing wraps, with a failure that nothing wraps, is told so.
func told(err error) string {
	if err == nil {
		return "ok"
	}
	e, ok := err.(*api.FileError)
	if !ok || e == nil {
		return fmt.Sprintf("another error: %T %v", err, err)
	}
	for _, failure := range []error{api.FailOff, api.FailName, api.FailKind, api.FailMissing, api.FailExists, api.FailRange, api.FailSpace} {
		if e.Err == failure && errors.Is(err, failure) {
			return fmt.Sprintf("%s %q: %v", e.Op, e.Path, failure)
		}
	}
	return fmt.Sprintf("%s %q: another failure: %T %v", e.Op, e.Path, e.Err, e.Err)
}

// view is all that can be seen of a disk without a step.
func view(fs fileSystem) string {
	var all strings.Builder
	top, err := fs.List("")
	fmt.Fprintln(&all, "off", fs.Off(), "used", fs.Used(), "top", told(err))
	for _, entry := range top {
		fmt.Fprintf(&all, "%+v\n", entry)
		if !entry.Dir {
			fmt.Fprintln(&all, viewFile(fs, entry.Name))
			continue
		}
		inner, err := fs.List(entry.Name)
		fmt.Fprintln(&all, told(err))
		for _, file := range inner {
			fmt.Fprintf(&all, "%+v %s\n", file, viewFile(fs, entry.Name+"/"+file.Name))
		}
	}
	return all.String()
}

func viewFile(fs fileSystem, path string) string {
	text, err := fs.All(path)
	if len(text) > 200 {
		text = text[:200]
	}
	return fmt.Sprintf("%q %s", text, told(err))
}

// A sequence is a row of numbers that look mixed and are the same in every run.
type sequence uint64

func (s *sequence) next() uint64 {
	*s ^= *s << 13
	*s ^= *s >> 7
	*s ^= *s << 17
	return uint64(*s)
}

func (s *sequence) below(n int) int {
	return int((s.next() >> 11) % uint64(n))
}

func pick[T any](s *sequence, all ...T) T {
	return all[s.below(len(all))]
}

func (s *sequence) text(size int) string {
	all := make([]byte, size)
	for i := range all {
		all[i] = 'A' + byte(s.below(26))
	}
	return string(all)
}

func (s *sequence) path() string {
	if s.below(3) > 0 {
		return pick(s, "a", "d", "e", "d/a", "e/a")
	}
	return pick(s, "b", "d-", "d.x", "d/b", "e/b", "d-/a", "a/a", "f/a", "", "A", "d/", "d/a/b")
}

func (s *sequence) number() int {
	return pick(s, 0, 0, 1, 2, 3, 4, 5, 6, 7, 8, 10, 12, 20, 100, -1, math.MinInt, math.MaxInt)
}

func (s *sequence) parts() []string {
	all := make([]string, s.below(4))
	for i := range all {
		all[i] = s.text(s.below(5))
	}
	return all
}

// callBoth makes the same mixed call of both, and answers what each of them told.
func (s *sequence) callBoth(a, b fileSystem) (name, first, second string) {
	path, to, n, more, parts := s.path(), s.path(), s.number(), s.number(), s.parts()
	data := make([]int, s.below(4))
	for i := range data {
		data[i] = s.number()
	}
	zeros, mask := s.below(2) == 0, byte(s.next()>>20)
	both := func(name string, call func(fs fileSystem) string) (string, string, string) {
		return fmt.Sprintf("%s(%q, %q, %d, %d, %q, %v, %v)", name, path, to, n, more, parts, data, zeros), call(a), call(b)
	}
	kind := s.below(30)
	if a.Off() && s.below(3) == 0 {
		kind = 28
	}
	switch kind {
	case 0, 1:
		return both("Mkdir", func(fs fileSystem) string { return told(fs.Mkdir(path)) })
	case 2, 3, 4, 5:
		return both("Create", func(fs fileSystem) string { return told(fs.Create(path)) })
	case 6, 7, 8, 9, 10, 11:
		return both("Append", func(fs fileSystem) string { return told(fs.Append(path, parts...)) })
	case 12, 13, 14:
		return both("Cut", func(fs fileSystem) string { return told(fs.Cut(path, n)) })
	case 15, 16:
		return both("Sync", func(fs fileSystem) string { return told(fs.Sync(path)) })
	case 17:
		return both("SyncNames", func(fs fileSystem) string { return told(fs.SyncNames()) })
	case 18, 19, 20, 21:
		return both("Rename", func(fs fileSystem) string { return told(fs.Rename(path, to)) })
	case 22, 23:
		return both("Remove", func(fs fileSystem) string { return told(fs.Remove(path)) })
	case 24, 25:
		return both("Read", func(fs fileSystem) string {
			text, err := fs.Read(path, n, more)
			return fmt.Sprintf("%q %s", text, told(err))
		})
	case 26:
		return both("List", func(fs fileSystem) string {
			all, err := fs.List(path)
			return fmt.Sprintf("%d %s", len(all), told(err))
		})
	case 27:
		return both("Crash", func(fs fileSystem) string { fs.Crash(n); return "" })
	case 28:
		return both("Restart", func(fs fileSystem) string { fs.Restart(n, data, zeros); return "" })
	default:
		return both("Flip", func(fs fileSystem) string { return told(fs.Flip(path, n, mask)) })
	}
}
