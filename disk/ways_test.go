package disk_test

import (
	"errors"
	"go/ast"
	"go/importer"
	"go/parser"
	"go/token"
	"go/types"
	"path/filepath"
	"slices"
	"strings"
	"testing"
)

// source is the layer's code with its types.
type source struct {
	files []*ast.File
	info  *types.Info
	pack  *types.Package
}

func parsed(t *testing.T, fset *token.FileSet, folder string) []*ast.File {
	t.Helper()
	paths, err := filepath.Glob(filepath.Join(folder, "*.go"))
	if err != nil {
		t.Fatal(err)
	}
	var all []*ast.File
	for _, path := range paths {
		if strings.HasSuffix(path, "_test.go") {
			continue
		}
		file, err := parser.ParseFile(fset, path, nil, 0)
		if err != nil {
			t.Fatal(err)
		}
		all = append(all, file)
	}
	return all
}

// importing finds package api beside this one, and the library's packages as they are.
type importing struct {
	api     *types.Package
	library types.Importer
}

func (i importing) Import(path string) (*types.Package, error) {
	switch {
	case path == "almanac/api":
		return i.api, nil
	case strings.HasPrefix(path, "almanac/"):
		return nil, errors.New("the layer calls " + path)
	}
	return i.library.Import(path)
}

func load(t *testing.T) source {
	t.Helper()
	fset := token.NewFileSet()
	imports := importing{library: importer.ForCompiler(fset, "source", nil)}
	config := types.Config{Importer: imports}
	given, err := config.Check("almanac/api", fset, parsed(t, fset, "../api"), nil)
	if err != nil {
		t.Fatal(err)
	}
	imports.api = given
	config.Importer = imports
	s := source{files: parsed(t, fset, "."), info: &types.Info{
		Types: map[ast.Expr]types.TypeAndValue{}, Selections: map[*ast.SelectorExpr]*types.Selection{}, Uses: map[*ast.Ident]types.Object{},
	}}
	s.pack, err = config.Check("almanac/disk", fset, s.files, s.info)
	if err != nil {
		t.Fatal(err)
	}
	return s
}

// each visits every node of the code.
func (s source) each(visit func(node ast.Node)) {
	for _, file := range s.files {
		ast.Inspect(file, func(node ast.Node) bool {
			visit(node)
			return true
		})
	}
}

func (s source) structure(t *testing.T, name string) *types.Struct {
	t.Helper()
	object := s.pack.Scope().Lookup(name)
	if object == nil {
		t.Fatalf("there is no type %s", name)
	}
	result, ok := object.Type().Underlying().(*types.Struct)
	if !ok {
		t.Fatalf("%s is not a struct", name)
	}
	return result
}

// isFiles tells if this is a map of files, or one of such maps.
func isFiles(kind types.Type) bool {
	m, ok := kind.Underlying().(*types.Map)
	if !ok {
		return false
	}
	if isFiles(m.Elem()) {
		return true
	}
	pointer, ok := m.Elem().(*types.Pointer)
	return ok && strings.HasSuffix(pointer.Elem().String(), ".file")
}

// Ways, layer 3: a disk embeds the tree of its items, whose promoted fields and methods it uses.
func TestDiskEmbedsTheTree(t *testing.T) {
	s := load(t)
	d := s.structure(t, "Disk")
	var embedded []string
	for i := range d.NumFields() {
		if field := d.Field(i); field.Embedded() {
			embedded = append(embedded, field.Name())
			if field.Exported() {
				t.Errorf("the disk shows %s", field.Name())
			}
		}
	}
	if !slices.Equal(embedded, []string{"tree"}) {
		t.Fatalf("the disk embeds %v", embedded)
	}
	fields, methods := 0, 0
	for _, selection := range s.info.Selections {
		if len(selection.Index()) < 2 {
			continue
		}
		if selection.Kind() == types.FieldVal {
			fields++
		} else {
			methods++
		}
	}
	if fields == 0 || methods == 0 {
		t.Errorf("%d promoted fields and %d promoted methods are used", fields, methods)
	}
}

// Ways, layer 3: the names steps are closures, in a list of functions of the disk.
func TestNamesStepsAreClosures(t *testing.T) {
	s := load(t)
	step := s.structure(t, "namesStep")
	if step.NumFields() != 1 {
		t.Fatalf("a names step has %d fields", step.NumFields())
	}
	if _, ok := step.Field(0).Type().Underlying().(*types.Signature); !ok {
		t.Errorf("a names step is no function: %v", step.Field(0).Type())
	}
	lists := 0
	d := s.structure(t, "Disk")
	for i := range d.NumFields() {
		if list, ok := d.Field(i).Type().(*types.Slice); ok && strings.HasSuffix(list.Elem().String(), ".namesStep") {
			lists++
		}
	}
	if lists != 1 {
		t.Errorf("the disk keeps %d lists of names steps", lists)
	}
	closures, applied := 0, 0
	s.each(func(node ast.Node) {
		call, ok := node.(*ast.CallExpr)
		if !ok {
			return
		}
		selector, ok := call.Fun.(*ast.SelectorExpr)
		if !ok {
			return
		}
		if selector.Sel.Name == "change" {
			if _, ok := call.Args[0].(*ast.FuncLit); !ok {
				t.Error("a names step is no closure")
			}
			closures++
		}
		if selection := s.info.Selections[selector]; selection != nil && selection.Obj() == step.Field(0) {
			applied++
		}
	})
	if closures != 4 { // Mkdir, Create, Rename, Remove
		t.Errorf("%d closures are names steps", closures)
	}
	if applied == 0 {
		t.Error("no names step is applied again from the list")
	}
}

// Ways, layer 3: files are kept in maps, deleted from them, and ranged over.
func TestFilesAreInMaps(t *testing.T) {
	s := load(t)
	deleted, ranged := 0, 0
	s.each(func(node ast.Node) {
		switch x := node.(type) {
		case *ast.CallExpr:
			name, ok := x.Fun.(*ast.Ident)
			if ok && name.Name == "delete" && isFiles(s.info.Types[x.Args[0]].Type) {
				deleted++
			}
		case *ast.RangeStmt:
			if isFiles(s.info.Types[x.X].Type) {
				ranged++
			}
		}
	})
	if deleted == 0 || ranged == 0 {
		t.Errorf("files are deleted from maps at %d places, ranged over at %d", deleted, ranged)
	}
}

// The program's rules: nothing of the library beside what is allowed, and no variable at package level.
func TestImportsAndVariables(t *testing.T) {
	allowed := []string{"almanac/api", "bytes", "cmp", "errors", "iter", "maps", "slices", "sort", "strings"}
	for _, file := range load(t).files {
		for _, imported := range file.Imports {
			if path := strings.Trim(imported.Path.Value, `"`); !slices.Contains(allowed, path) {
				t.Errorf("%s is imported", path)
			}
		}
		for _, declared := range file.Decls {
			if group, ok := declared.(*ast.GenDecl); ok && group.Tok == token.VAR {
				t.Error("a variable is declared at package level")
			}
		}
	}
}
