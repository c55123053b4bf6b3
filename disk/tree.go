package disk

import (
	"maps"
	"slices"
	"strings"

	"almanac/api"
)

// tree holds the items by their names: for each directory its files, and for the empty string those of the top level. Its zero value is empty.
type tree struct {
	folders map[string]map[string]*file
}

// file tells the file with this path, nil if there is none.
func (t *tree) file(path string) *file {
	dir, name := split(path)
	return t.folders[dir][name]
}

// isFolder tells if there is such a directory; the top level, which is the empty string, always is.
func (t *tree) isFolder(dir string) bool {
	return dir == "" || t.folders[dir] != nil
}

func (t *tree) exists(path string) bool {
	return t.isFolder(path) || t.file(path) != nil
}

// size counts the bytes of a file, or of a directory's files.
func (t *tree) size(path string) int {
	if f := t.file(path); f != nil {
		return len(f.bytes)
	}
	total := 0
	for _, f := range t.folders[path] {
		total += len(f.bytes)
	}
	return total
}

func (t *tree) addFolder(dir string) {
	if t.folders == nil {
		t.folders = map[string]map[string]*file{}
	}
	t.folders[dir] = map[string]*file{}
}

func (t *tree) put(path string, f *file) {
	dir, name := split(path)
	if t.folders[dir] == nil { // the top level comes to be with its first file
		t.addFolder(dir)
	}
	t.folders[dir][name] = f
}

// drop removes the item, be it a directory or a file.
func (t *tree) drop(path string) {
	delete(t.folders, path)
	dir, name := split(path)
	delete(t.folders[dir], name)
}

func (t *tree) move(from, to string) {
	if files := t.folders[from]; files != nil {
		t.folders[to] = files
	} else {
		t.put(to, t.file(from))
	}
	t.drop(from)
}

// paths are those of all files, in their order.
func (t *tree) paths() []string {
	var all []string
	for dir, files := range t.folders {
		for name := range files {
			if dir != "" {
				name = dir + "/" + name
			}
			all = append(all, name)
		}
	}
	slices.Sort(all)
	return all
}

// clone has maps of its own, but the same files.
func (t *tree) clone() tree {
	folders := map[string]map[string]*file{}
	for dir, files := range t.folders {
		folders[dir] = maps.Clone(files)
	}
	return tree{folders}
}

// split takes a path apart: the directory is the empty string at the top level.
func split(path string) (dir, name string) {
	dir, name, inside := strings.Cut(path, "/")
	if !inside {
		return "", path
	}
	return dir, name
}

func folderOf(path string) string {
	dir, _ := split(path)
	return dir
}

func isPath(path string) bool {
	dir, name, inside := strings.Cut(path, "/")
	return isName(dir) && (!inside || isName(name))
}

func isName(name string) bool {
	if len(name) < 1 || len(name) > api.MaxName {
		return false
	}
	for i := range len(name) {
		if !isNameByte(name[i]) {
			return false
		}
	}
	return true
}

func isNameByte(c byte) bool {
	return 'a' <= c && c <= 'z' || '0' <= c && c <= '9' || c == '.' || c == '-'
}
