package oracle

import (
	"go/parser"
	"go/token"
	"path/filepath"
	"slices"
	"strconv"
	"strings"
	"testing"
)

// allowed are the packages of the library that rule 1 of LANGUAGE.md lists.
func allowed() []string {
	return strings.Fields("bytes cmp container/heap errors iter maps math math/big math/bits slices sort strconv strings sync sync/atomic unicode unicode/utf8")
}

// Rule 1 of LANGUAGE.md holds for the files beside tests of every package, of those that only tests lean on too.
func TestImportsOfEveryPackage(t *testing.T) {
	files, err := filepath.Glob("../*/*.go")
	if err != nil {
		t.Fatal(err)
	}
	looked := map[string]int{}
	for _, file := range files {
		if strings.HasSuffix(file, "_test.go") {
			continue
		}
		tree, err := parser.ParseFile(token.NewFileSet(), file, nil, parser.ImportsOnly)
		if err != nil {
			t.Fatal(err)
		}
		looked[filepath.Base(filepath.Dir(file))]++
		for _, i := range tree.Imports {
			path, err := strconv.Unquote(i.Path.Value)
			if err != nil || !strings.HasPrefix(path, "ambit/") && !slices.Contains(allowed(), path) {
				t.Errorf("%s imports %s", file, i.Path.Value)
			}
		}
	}
	for _, name := range []string{"api", "wire", "split", "desk", "oracle", "samples"} {
		if looked[name] == 0 {
			t.Errorf("no file of %s was looked at", name)
		}
	}
}
