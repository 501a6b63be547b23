package tests

import (
	"go/ast"
	"go/build"
	"go/importer"
	"go/parser"
	"go/token"
	"go/types"
	"os/exec"
	"path/filepath"
	"slices"
	"strings"
	"testing"
)

// Go leaves open whether a variable is read ahead of or behind a call in the same statement that changes it. No run of one compiler shows both orders: the statements themselves are looked at.

type orderLook struct {
	fset    *token.FileSet
	info    *types.Info
	bodies  map[types.Object]ast.Node
	writers map[string]bool
}

// lookOver reads files of one package; functions are told apart by their names alone, so that calls through an interface are met, too.
func lookOver(t *testing.T, fset *token.FileSet, files []*ast.File) []string {
	t.Helper()
	if build.Default.GOROOT == "" {
		root, _ := exec.Command("go", "env", "GOROOT").Output()
		build.Default.GOROOT = strings.TrimSpace(string(root))
	}
	w := &orderLook{fset: fset, bodies: map[types.Object]ast.Node{}, writers: map[string]bool{}}
	w.info = &types.Info{Types: map[ast.Expr]types.TypeAndValue{}, Uses: map[*ast.Ident]types.Object{}, Defs: map[*ast.Ident]types.Object{}, Selections: map[*ast.SelectorExpr]*types.Selection{}}
	conf := types.Config{Importer: importer.ForCompiler(fset, "source", nil)}
	if _, err := conf.Check("looked", fset, files, w.info); err != nil {
		t.Fatal(err)
	}
	for _, f := range files {
		w.findBodies(f)
	}
	w.findWriters()
	found := []string{}
	for _, f := range files {
		ast.Inspect(f, func(n ast.Node) bool {
			found = append(found, w.open(w.groupOf(n))...)
			return true
		})
	}
	return found
}

// findBodies keeps the bodies of functions and of those function values that a variable has.
func (w *orderLook) findBodies(f *ast.File) {
	ast.Inspect(f, func(n ast.Node) bool {
		switch x := n.(type) {
		case *ast.FuncDecl:
			w.bodies[w.info.Defs[x.Name]] = x
		case *ast.AssignStmt:
			for i, right := range x.Rhs {
				if lit, ok := right.(*ast.FuncLit); ok && i < len(x.Lhs) {
					w.bodies[w.objectOf(x.Lhs[i])] = lit
				}
			}
		}
		return true
	})
}

func (w *orderLook) objectOf(e ast.Expr) types.Object {
	id, ok := e.(*ast.Ident)
	if !ok {
		return nil
	}
	if o := w.info.Defs[id]; o != nil {
		return o
	}
	return w.info.Uses[id]
}

// findWriters marks functions that store through something, or call one that does.
func (w *orderLook) findWriters() {
	for more := true; more; {
		more = false
		for o, body := range w.bodies {
			if o != nil && !w.writers[o.Name()] && w.stores(body) {
				w.writers[o.Name()] = true
				more = true
			}
		}
	}
}

func (w *orderLook) stores(body ast.Node) bool {
	found := false
	ast.Inspect(body, func(n ast.Node) bool {
		switch x := n.(type) {
		case *ast.AssignStmt:
			for _, left := range x.Lhs {
				_, plain := left.(*ast.Ident)
				found = found || !plain
			}
		case *ast.IncDecStmt:
			_, plain := x.X.(*ast.Ident)
			found = found || !plain
		case *ast.CallExpr:
			found = found || w.writes(x)
		}
		return true
	})
	return found
}

// writes tells of a call that may store through what it is given.
func (w *orderLook) writes(c *ast.CallExpr) bool {
	if w.info.Types[c.Fun].IsType() {
		return false
	}
	id := calledName(c)
	if id == nil {
		return true
	}
	o := w.info.Uses[id]
	if _, ok := o.(*types.Builtin); ok {
		return slices.Contains([]string{"copy", "clear", "delete"}, o.Name())
	}
	if o == nil || o.Pkg() == nil || o.Pkg().Path() == "looked" {
		return o == nil || w.writers[o.Name()] || w.bodies[o] != nil && len(w.assigned(w.bodies[o])) > 0
	}
	switch o.Pkg().Path() {
	case "bytes", "cmp", "math", "math/bits", "strconv", "strings", "unicode", "unicode/utf8":
		return false
	case "slices", "maps":
		return !strings.Contains(" Clone Concat Contains ContainsFunc Equal EqualFunc Index IndexFunc Max Min Repeat Values Keys All ", " "+o.Name()+" ")
	case "errors":
		return o.Name() == "As"
	}
	return true
}

func calledName(c *ast.CallExpr) *ast.Ident {
	switch f := ast.Unparen(c.Fun).(type) {
	case *ast.Ident:
		return f
	case *ast.SelectorExpr:
		return f.Sel
	}
	return nil
}

// assigned are the variables from outside that a function literal assigns.
func (w *orderLook) assigned(body ast.Node) []types.Object {
	all := []types.Object{}
	lit, ok := body.(*ast.FuncLit)
	if !ok {
		return nil
	}
	ast.Inspect(lit.Body, func(n ast.Node) bool {
		lefts := []ast.Expr{}
		switch x := n.(type) {
		case *ast.AssignStmt:
			lefts = x.Lhs
		case *ast.IncDecStmt:
			lefts = []ast.Expr{x.X}
		}
		for _, left := range lefts {
			if o := w.rootOf(left); o != nil && (o.Pos() < lit.Pos() || o.Pos() > lit.End()) {
				all = append(all, o)
			}
		}
		return true
	})
	return all
}

// rootOf is the variable that an expression is a part of, or is come to through.
func (w *orderLook) rootOf(e ast.Expr) types.Object {
	for {
		switch x := ast.Unparen(e).(type) {
		case *ast.Ident:
			v, _ := w.objectOf(x).(*types.Var)
			if v == nil {
				return nil
			}
			return v
		case *ast.SelectorExpr:
			e = x.X
		case *ast.IndexExpr:
			e = x.X
		case *ast.SliceExpr:
			e = x.X
		case *ast.StarExpr:
			e = x.X
		case *ast.UnaryExpr:
			e = x.X
		default:
			return nil
		}
	}
}

// changed are the variables that a call may change: whole ones, and those that it changes something behind.
func (w *orderLook) changed(c *ast.CallExpr) (map[types.Object]bool, map[types.Object]bool) {
	whole, behind := map[types.Object]bool{}, map[types.Object]bool{}
	if !w.writes(c) {
		return whole, behind
	}
	given := slices.Clone(c.Args)
	if s, ok := ast.Unparen(c.Fun).(*ast.SelectorExpr); ok {
		if sel := w.info.Selections[s]; sel != nil {
			given = append(given, s.X)
			if f, is := sel.Obj().(*types.Func); is {
				_, byPointer := f.Signature().Recv().Type().(*types.Pointer)
				_, pointer := w.typeOf(s.X).(*types.Pointer)
				if byPointer && !pointer {
					whole[w.rootOf(s.X)] = true
				}
			}
		}
	}
	for _, o := range w.assigned(w.bodies[w.objectOf(ast.Unparen(c.Fun))]) {
		whole[o] = true
	}
	for _, g := range given {
		w.changedThrough(g, whole, behind)
	}
	return whole, behind
}

func (w *orderLook) changedThrough(g ast.Expr, whole map[types.Object]bool, behind map[types.Object]bool) {
	switch x := ast.Unparen(g).(type) {
	case *ast.UnaryExpr:
		if x.Op == token.AND {
			whole[w.rootOf(x.X)] = true
		}
		return
	case *ast.SliceExpr:
		if _, ok := w.typeOf(x.X).(*types.Array); ok {
			whole[w.rootOf(x.X)] = true
		}
	case *ast.FuncLit:
		for _, o := range w.assigned(x) {
			whole[o] = true
		}
	}
	switch w.typeOf(g).(type) {
	case *types.Pointer, *types.Slice, *types.Map:
		behind[w.rootOf(g)] = true
	case *types.Signature:
		for _, o := range w.assigned(w.bodies[w.objectOf(g)]) {
			whole[o] = true
		}
	}
}

func (w *orderLook) typeOf(e ast.Expr) types.Type {
	if t := w.info.Types[e].Type; t != nil {
		return t.Underlying()
	}
	return nil
}

// groupOf are the expressions of one statement, without those of the statements inside it.
func (w *orderLook) groupOf(n ast.Node) []ast.Expr {
	switch x := n.(type) {
	case *ast.AssignStmt:
		if x.Tok != token.ASSIGN && x.Tok != token.DEFINE {
			return slices.Concat(x.Lhs, x.Rhs)
		}
		group := slices.Clone(x.Rhs)
		for _, left := range x.Lhs {
			group = append(w.readAtLeft(left), group...)
		}
		return group
	case *ast.ReturnStmt:
		return x.Results
	case *ast.ExprStmt:
		return []ast.Expr{x.X}
	case *ast.IncDecStmt:
		return []ast.Expr{x.X}
	case *ast.DeferStmt:
		return []ast.Expr{x.Call}
	case *ast.IfStmt:
		return []ast.Expr{x.Cond}
	case *ast.ForStmt:
		return []ast.Expr{x.Cond}
	case *ast.SwitchStmt:
		return []ast.Expr{x.Tag}
	case *ast.RangeStmt:
		return []ast.Expr{x.X}
	case *ast.SendStmt:
		return []ast.Expr{x.Chan, x.Value}
	case *ast.ValueSpec:
		return x.Values
	case *ast.CaseClause:
		return x.List
	}
	return nil
}

// readAtLeft are the parts of what is stored to that are read for it: a variable itself is not.
func (w *orderLook) readAtLeft(e ast.Expr) []ast.Expr {
	switch x := e.(type) {
	case *ast.ParenExpr:
		return w.readAtLeft(x.X)
	case *ast.StarExpr:
		return []ast.Expr{x.X}
	case *ast.SelectorExpr:
		if _, ok := w.typeOf(x.X).(*types.Pointer); ok {
			return []ast.Expr{x.X}
		}
		return w.readAtLeft(x.X)
	case *ast.IndexExpr:
		if _, ok := w.typeOf(x.X).(*types.Array); ok {
			return append(w.readAtLeft(x.X), x.Index)
		}
		return []ast.Expr{x.X, x.Index}
	}
	return nil
}

// path is a node with all that it lies in, the outermost first.
type path []ast.Node

// pathsOf leaves the bodies of function literals away: they are not run where they stand.
func pathsOf(group []ast.Expr) []path {
	all := []path{}
	for _, e := range group {
		if e == nil {
			continue
		}
		here := path{}
		ast.Inspect(e, func(n ast.Node) bool {
			if n == nil {
				here = here[:len(here)-1]
				return true
			}
			if _, ok := n.(*ast.FuncLit); ok {
				return false
			}
			here = append(here, n)
			all = append(all, slices.Clone(here))
			return true
		})
	}
	return all
}

// ordered tells of a call and a variable that the variable lies in the call, or in one ahead of it, or that && or || parts them: then it is told which is first.
func (w *orderLook) ordered(call path, read path) bool {
	n := 0
	for n < len(call) && n < len(read) && call[n] == read[n] {
		n++
	}
	if n == len(call) || n == len(read) {
		return true
	}
	for _, part := range read[n:] {
		if c, ok := part.(*ast.CallExpr); ok && c.End() <= call[n].Pos() && w.isCall(c) {
			return true
		}
	}
	if n == 0 {
		return false
	}
	both, ok := call[n-1].(*ast.BinaryExpr)
	return ok && (both.Op == token.LAND || both.Op == token.LOR)
}

// isCall leaves conversions and what is built in away: these are no calls that Go has an order for.
func (w *orderLook) isCall(c *ast.CallExpr) bool {
	id := calledName(c)
	if id == nil {
		return false
	}
	_, builtIn := w.info.Uses[id].(*types.Builtin)
	return !builtIn && !w.info.Types[c.Fun].IsType()
}

// through tells whether a variable is read for what lies behind it, and not handed on or asked for a method alone.
func (w *orderLook) through(p path) bool {
	for i := len(p) - 2; i >= 0; i-- {
		switch x := p[i].(type) {
		case *ast.SelectorExpr:
			sel := w.info.Selections[x]
			if sel == nil || sel.Kind() != types.FieldVal {
				return false
			}
			return true
		case *ast.IndexExpr:
			return x.X == p[i+1]
		case *ast.StarExpr:
			return true
		case *ast.ParenExpr:
		default:
			return false
		}
	}
	return false
}

// open tells the places where a variable is read beside a call that changes it.
func (w *orderLook) open(group []ast.Expr) []string {
	found := []string{}
	paths := pathsOf(group)
	for _, p := range paths {
		c, ok := p[len(p)-1].(*ast.CallExpr)
		if !ok {
			continue
		}
		whole, behind := w.changed(c)
		for _, q := range paths {
			id, ok := q[len(q)-1].(*ast.Ident)
			if !ok || w.ordered(p, q) {
				continue
			}
			o := w.info.Uses[id]
			if o != nil && (whole[o] || behind[o] && w.through(q)) {
				found = append(found, w.fset.Position(id.Pos()).String()+": "+id.Name)
			}
		}
	}
	return found
}

func TestNoOpenOrder(t *testing.T) {
	fset := token.NewFileSet()
	names, _ := filepath.Glob("../impl/*.go")
	files := []*ast.File{}
	for _, name := range names {
		f, err := parser.ParseFile(fset, name, nil, parser.SkipObjectResolution)
		if err != nil {
			t.Fatal(err)
		}
		files = append(files, f)
	}
	if len(files) == 0 {
		t.Fatal("there are no files")
	}
	for _, place := range lookOver(t, fset, files) {
		t.Errorf("%s is read beside a call that changes it: which is first is open", place)
	}
}

// The look itself is tried on statements that leave the order open, and on others that don't.
func TestLookForOpenOrder(t *testing.T) {
	const frame = `package looked
type box struct { n int; list []int; inner *box }
func (b *box) step() int { b.n++; return b.n }
func (b *box) calm() int { return b.n + 1 }
func (b box) by() int { return b.n }
func (b *box) deep() int { return b.inner.step() }
func fill(l []int) int { l[0] = 7; return len(l) }
func sum(l ...int) int { return len(l) }
type steps interface { step() int; calm() int }
`
	for _, body := range []string{
		"var l [3]byte; return int(l[0]), copy(l[:], b)",
		"var l [3]byte; x, y := l, copy(l[:], b); return int(x[0]), y",
		"var v box; return v.n, v.step()",
		"v := &box{}; return v.n, v.step()",
		"v := &box{}; return v.step(), v.n",
		"v := &box{}; return v.n, v.deep()",
		"v := &box{}; return 1, sum(v.n, v.step())",
		"v := &box{}; w := []int{v.n, v.step()}; return w[0], w[1]",
		"v := &box{}; n := v.n + v.step(); return n, n",
		"v := &box{}; n := 1; n += v.n * v.step(); return n, n",
		"l := []int{1}; return l[0], fill(l)",
		"n := 1; f := func() int { n = 2; return n }; return n, f()",
		"n := 1; f := func() int { n++; return n }; n += f(); return n, 0",
		"v := &box{list: make([]int, 9)}; v.list[v.n] = v.step(); return 0, 0",
		"v := &box{inner: &box{}}; v.inner.n = v.step(); return 0, 0",
		"v := &box{}; return v.step(), sum(v.n)",
		"v := &box{}; v.n += v.step(); return 0, 0",
		"var v [3]int; i := 0; f := func() int { i++; return i }; v[i] = f(); return 0, 0",
		"var s steps = &box{}; v := &box{}; _ = v; n := 0; g := func() int { n++; return s.step() }; return n, g()",
		"if v := (&box{}); v.n == v.step() { return 1, 1 }; return 0, 0",
	} {
		if found := lookAt(t, frame, body); len(found) == 0 {
			t.Errorf("not found: %s", body)
		}
	}
	for _, body := range []string{
		"var l [3]byte; n := copy(l[:], b); return int(l[0]), n",
		"var v box; n := v.step(); return v.n, n",
		"v := &box{}; n := v.step(); return v.n, n",
		"v := &box{}; return v.n, v.calm()",
		"v := &box{}; return v.step(), v.calm()",
		"v := &box{}; return sum(v.n, v.calm()), v.step()",
		"v := box{}; return v.n, v.by()",
		"v := &box{}; if v.n == 0 && v.step() == 1 { return 1, 1 }; return 0, 0",
		"v := &box{}; if v.step() == 1 || v.n == 0 { return 1, 1 }; return 0, 0",
		"l := []int{1}; l = append(l, l[0]); return l[0], sum(l...)",
		"l := []int{1}; l[0], l[1] = l[1], l[0]; return l[0], 0",
		"n := 1; f := func() int { return n }; n = f(); return n, f()",
		"n := 1; n, m := n + 1, sum(n); return n, m",
		"v := &box{}; v.n = v.step(); return 0, 0",
		"var v box; v.n = v.step(); return 0, 0",
		"var v [3]int; v[0] = fill(v[:]); return 0, 0",
	} {
		if found := lookAt(t, frame, body); len(found) != 0 {
			t.Errorf("found: %s: %v", body, found)
		}
	}
}

func lookAt(t *testing.T, frame string, body string) []string {
	t.Helper()
	fset := token.NewFileSet()
	f, err := parser.ParseFile(fset, "looked.go", frame+"func do(b []byte) (int, int) { "+body+" }", parser.SkipObjectResolution)
	if err != nil {
		t.Fatal(body, err)
	}
	return lookOver(t, fset, []*ast.File{f})
}
