// Package language holds the tests of how the program is written: of the rules that its text alone shows.
package language

import (
	"bytes"
	"go/ast"
	"go/format"
	"go/parser"
	"go/token"
	"io/fs"
	"os"
	"path/filepath"
	"slices"
	"strconv"
	"strings"
	"testing"
)

const (
	root    = ".."
	library = " bytes cmp container/heap errors iter maps math math/bits slices sort strconv strings sync sync/atomic unicode unicode/utf8 "
	longest = 60 // lines of a function
)

// layers: in their order; each calls those ahead of it alone.
const layers = "crc disk varint key frame batch skip memo bloom block table edit version manifest merge wal store compact " +
	"amount order schema overlay ledger book match engine command session dump check script report season walk candle tape"

type source struct {
	path string
	text []byte
	set  *token.FileSet
	tree *ast.File
}

// sources: the program's files, without tests.
func sources(t *testing.T) []source {
	t.Helper()
	var l []source
	err := filepath.WalkDir(root, func(path string, e fs.DirEntry, err error) error {
		if err != nil {
			return err
		}
		if e.IsDir() && (e.Name() == ".git" || e.Name() == "sharedtests") {
			return filepath.SkipDir
		}
		if e.IsDir() || !strings.HasSuffix(path, ".go") || strings.HasSuffix(path, "_test.go") {
			return nil
		}
		s := source{path: path, set: token.NewFileSet()}
		if s.text, err = os.ReadFile(path); err != nil {
			return err
		}
		s.tree, err = parser.ParseFile(s.set, path, s.text, parser.ParseComments)
		l = append(l, s)
		return err
	})
	if err != nil {
		t.Fatal(err)
	}
	return l
}

// TestPackages: every layer has its package.
func TestPackages(t *testing.T) {
	have := map[string]bool{}
	for _, s := range sources(t) {
		have[filepath.ToSlash(filepath.Dir(s.path))] = true
	}
	for _, name := range append(strings.Fields(layers), "api") {
		if !have[root+"/"+name] {
			t.Errorf("no package %s", name)
		}
	}
}

// TestImports: those of the library that the language has; of the project layers below alone.
func TestImports(t *testing.T) {
	order := strings.Fields(layers)
	for _, s := range sources(t) {
		layer := slices.Index(order, s.tree.Name.Name)
		for _, i := range s.tree.Imports {
			path, _ := strconv.Unquote(i.Path.Value)
			name, own := strings.CutPrefix(path, "bourse/")
			switch {
			case !own && !strings.Contains(library, " "+path+" "):
				t.Errorf("%s imports %s", s.path, path)
			case own && layer >= 0 && slices.Index(order, name) >= layer:
				t.Errorf("%s imports %s, which isn't below it", s.path, path)
			}
		}
	}
}

// TestLayout: gofmt's.
func TestLayout(t *testing.T) {
	for _, s := range sources(t) {
		if f, err := format.Source(s.text); err != nil || !bytes.Equal(f, s.text) {
			t.Errorf("%s isn't laid out by gofmt", s.path)
		}
	}
}

// TestLines: no line to the compiler, no build tag.
func TestLines(t *testing.T) {
	for _, s := range sources(t) {
		for _, g := range s.tree.Comments {
			for _, c := range g.List {
				if strings.HasPrefix(c.Text, "//go:") || strings.HasPrefix(c.Text, "// +build") {
					t.Errorf("%s has %s", s.path, c.Text)
				}
			}
		}
	}
}

// TestFunctions: none is long, none is filled at start-up, none pulls a row.
func TestFunctions(t *testing.T) {
	for _, s := range sources(t) {
		ast.Inspect(s.tree, func(n ast.Node) bool {
			switch x := n.(type) {
			case *ast.FuncDecl:
				if lines := s.set.Position(x.End()).Line - s.set.Position(x.Pos()).Line + 1; lines > longest {
					t.Errorf("%s: %s has %d lines", s.path, x.Name.Name, lines)
				}
				if x.Recv == nil && x.Name.Name == "init" {
					t.Errorf("%s has init", s.path)
				}
			case *ast.SelectorExpr:
				if of, ok := x.X.(*ast.Ident); ok && of.Name == "iter" && strings.HasPrefix(x.Sel.Name, "Pull") {
					t.Errorf("%s pulls a row", s.path)
				}
			}
			return true
		})
	}
}
