package tests

import (
	"fmt"
	"go/ast"
	"go/parser"
	"go/token"
	"go/types"
	"path/filepath"
	"slices"
	"strings"
	"testing"
)

// reader reads code and keeps what is outside the subset of Go that the program is written in. The rules about loops, the order of calls and memory can not be read off so, and are not looked at here.
type reader struct {
	files  *token.FileSet
	info   *types.Info
	called map[*ast.Ident]bool
	heads  map[*ast.FuncType]bool
	faults []string
}

func (r *reader) fault(at token.Pos, what string) {
	place := r.files.Position(at)
	r.faults = append(r.faults, fmt.Sprintf("%s:%d: %s", filepath.Base(place.Filename), place.Line, what))
}

func faultsIn(files *token.FileSet, list []*ast.File) []string {
	info := &types.Info{
		Types:     map[ast.Expr]types.TypeAndValue{},
		Uses:      map[*ast.Ident]types.Object{},
		Instances: map[*ast.Ident]types.Instance{},
	}
	r := &reader{files: files, info: info, called: map[*ast.Ident]bool{}, heads: map[*ast.FuncType]bool{}}
	// Errors of types are those of go build; here they only must not stop the reading.
	config := types.Config{Error: func(error) {}}
	config.Check("impl", files, list, info)
	for _, file := range list {
		r.readFile(file)
	}
	return r.faults
}

func (r *reader) readFile(file *ast.File) {
	if file.Name.Name != "impl" {
		r.fault(file.Pos(), "a package that is not impl")
	}
	for _, decl := range file.Decls {
		r.readDeclaration(decl)
	}
	ast.Inspect(file, func(node ast.Node) bool {
		if call, ok := node.(*ast.CallExpr); ok {
			r.noteCalled(call.Fun)
		}
		return true
	})
	ast.Inspect(file, func(node ast.Node) bool {
		r.readStatement(node)
		r.readType(node)
		r.readExpression(node)
		return true
	})
}

func (r *reader) readDeclaration(decl ast.Decl) {
	switch d := decl.(type) {
	case *ast.GenDecl:
		if d.Tok == token.IMPORT {
			r.fault(d.Pos(), "an import")
		}
		if d.Tok == token.VAR {
			r.fault(d.Pos(), "a variable of the package")
		}
	case *ast.FuncDecl:
		r.heads[d.Type] = true
		if d.Recv == nil && d.Name.Name == "init" {
			r.fault(d.Pos(), "func init")
		}
		if d.Type.TypeParams != nil {
			r.fault(d.Pos(), "a generic function")
		}
		if d.Body == nil {
			r.fault(d.Pos(), "a function without a body")
		}
	}
}

func (r *reader) noteCalled(fun ast.Expr) {
	switch f := ast.Unparen(fun).(type) {
	case *ast.Ident:
		r.called[f] = true
	case *ast.SelectorExpr:
		r.called[f.Sel] = true
	}
}

func (r *reader) readStatement(node ast.Node) {
	switch n := node.(type) {
	case *ast.GoStmt, *ast.SendStmt, *ast.SelectStmt, *ast.DeferStmt:
		r.fault(n.Pos(), "go, a channel, select or defer")
	case *ast.TypeSwitchStmt:
		r.fault(n.Pos(), "a switch over types")
	case *ast.BranchStmt:
		if n.Tok == token.GOTO {
			r.fault(n.Pos(), "goto")
		}
	case *ast.AssignStmt:
		r.readAssignment(n.Pos(), n.Lhs)
	case *ast.RangeStmt:
		r.readRange(n)
	}
}

func (r *reader) readAssignment(at token.Pos, left []ast.Expr) {
	for _, to := range left {
		if _, ok := ast.Unparen(to).(*ast.Ident); !ok && len(left) > 1 {
			r.fault(at, "several values at once to elements or fields")
			return
		}
	}
}

func (r *reader) readRange(n *ast.RangeStmt) {
	if n.Key != nil && n.Value != nil {
		r.readAssignment(n.Pos(), []ast.Expr{n.Key, n.Value})
	}
	if tv, ok := r.info.Types[n.X]; ok {
		if _, ok := tv.Type.Underlying().(*types.Signature); ok {
			r.fault(n.Pos(), "a loop over a function")
		}
	}
}

func (r *reader) readType(node ast.Node) {
	switch n := node.(type) {
	case *ast.InterfaceType:
		r.fault(n.Pos(), "an interface type")
	case *ast.TypeAssertExpr:
		r.fault(n.Pos(), "a type assertion")
	case *ast.MapType:
		r.fault(n.Pos(), "a map")
	case *ast.ChanType:
		r.fault(n.Pos(), "a channel type")
	case *ast.TypeSpec:
		if n.TypeParams != nil {
			r.fault(n.Pos(), "a generic type")
		}
	case *ast.FuncType:
		if !r.heads[n] {
			r.fault(n.Pos(), "a function value or its type")
		}
	}
}

func (r *reader) readExpression(node ast.Node) {
	switch n := node.(type) {
	case *ast.Ident:
		r.readName(n)
	case *ast.SliceExpr:
		if n.Slice3 {
			r.fault(n.Pos(), "a slice expression with three indexes")
		}
	case *ast.BinaryExpr:
		if r.isNil(n.X) || r.isNil(n.Y) {
			r.fault(n.Pos(), "a comparison with nil")
		}
	}
	if expr, ok := node.(ast.Expr); ok && r.isFloat(expr) {
		r.fault(expr.Pos(), "a float or a complex number")
	}
}

func (r *reader) isNil(expr ast.Expr) bool {
	tv, ok := r.info.Types[ast.Unparen(expr)]
	return ok && tv.IsNil()
}

func (r *reader) isFloat(expr ast.Expr) bool {
	tv, ok := r.info.Types[expr]
	if !ok {
		return false
	}
	basic, ok := tv.Type.Underlying().(*types.Basic)
	return ok && basic.Info()&(types.IsFloat|types.IsComplex) != 0
}

func (r *reader) readName(n *ast.Ident) {
	if _, ok := r.info.Instances[n]; ok {
		r.fault(n.Pos(), "an instance of what is generic")
	}
	object := r.info.Uses[n]
	if _, ok := object.(*types.Func); ok && !r.called[n] {
		r.fault(n.Pos(), "a function that is used as a value")
	}
	if object == nil || object.Parent() != types.Universe {
		return
	}
	switch n.Name {
	case "any", "error", "comparable", "cap", "panic", "recover", "complex", "real", "imag":
		r.fault(n.Pos(), n.Name)
	}
}

func TestImplKeepsToTheLanguage(t *testing.T) {
	names, err := filepath.Glob("../impl/*")
	if err != nil || len(names) != 30 {
		t.Fatalf("impl has not one file for each of 30 chapters: %v, %v", names, err)
	}
	files := token.NewFileSet()
	var list []*ast.File
	for _, name := range names {
		file, err := parser.ParseFile(files, name, nil, parser.SkipObjectResolution)
		if err != nil {
			t.Fatal(err)
		}
		list = append(list, file)
	}
	for _, fault := range faultsIn(files, list) {
		t.Error(fault)
	}
}

func faultsOfCode(t *testing.T, code string) []string {
	t.Helper()
	files := token.NewFileSet()
	file, err := parser.ParseFile(files, "code.go", "package impl\n"+code, parser.SkipObjectResolution)
	if err != nil {
		t.Fatal(err)
	}
	return faultsIn(files, []*ast.File{file})
}

func TestCodeOutsideTheLanguageIsSeen(t *testing.T) {
	for _, code := range []string{
		"import \"strings\"",
		"var table = []int{1, 2}",
		"func init() {}",
		"type T interface{ F() }",
		"func f(x any) {}",
		"func f() error { return nil }",
		"func f(x any) { switch x.(type) {} }",
		"func f() { func() {}() }",
		"func g() {}\nfunc f() { h := g; h() }",
		"type T struct{}\nfunc (x T) g() {}\nfunc f(x T) { h := x.g; h() }",
		"func f(g func()) { g() }",
		"type T struct{ g func() }",
		"type T func()",
		"type T []func()",
		"func f() { x := map[int]int{}; _ = len(x) }",
		"func g() {}\nfunc f() { go g() }",
		"func g() {}\nfunc f() { defer g() }",
		"func f() { x := make(chan int); _ = x }",
		"func f() { select {} }",
		"func f() { panic(1) }",
		"func f() { recover() }",
		"func f() {\nhere:\n\tgoto here\n}",
		"func f[T int](x T) {}",
		"type T[K int] struct{ x K }",
		"func f(x int) { _ = float64(x) }",
		"func f() { x := 1.5; _ = x }",
		"const half = 0.5",
		"func f() { x := 2i; _ = x }",
		"func f(a []int) { a[0], a[1] = a[1], a[0] }",
		"type T struct{ x int }\nfunc f(t T, y int) { y, t.x = 1, 2; _ = y }",
		"func f(a []int) int { return cap(a) }",
		"func f(a []int) []int { return a[0:1:1] }",
		"func f(a []int) bool { return a == nil }",
		"func f(a []int) bool { return nil != a }",
	} {
		if len(faultsOfCode(t, code)) == 0 {
			t.Errorf("nothing is told about:\n%s", code)
		}
	}
}

func TestCodeOfTheLanguageIsLeftAlone(t *testing.T) {
	code := strings.Join([]string{
		"const Most = 1 << 40",
		"type T struct{ X int; Next []T }",
		"func (t T) long() int { return len(t.Next) }",
		"func two() (int, bool) { return 1, true }",
		"func f(t T, print int) ([]int, string) {",
		"\tx, ok := two()",
		"\ty := t.long() + print",
		"\tx, y = y, x",
		"\tvar list []int",
		"\tfor i := range t.Next { list = append(list, i%7, y) }",
		"\tif !ok { return nil, \"\" }",
		"\tlist[0] = x",
		"\treturn append([]int{}, list[1:]...), string([]byte{'a'})",
		"}",
	}, "\n")
	if faults := faultsOfCode(t, code); !slices.Equal(faults, nil) {
		t.Fatal(faults)
	}
}
