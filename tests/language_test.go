package tests

import (
	"fmt"
	"go/ast"
	"go/parser"
	"go/token"
	"go/types"
	"path/filepath"
	"slices"
	"sync"
	"testing"
)

// checker looks through the files of one package for what the subset of Go leaves out.
type checker struct {
	files   *token.FileSet
	info    *types.Info
	callees map[*ast.Ident]bool
	found   []string
}

func (c *checker) report(n ast.Node, what string) {
	c.found = append(c.found, fmt.Sprintf("%s: %s", c.files.Position(n.Pos()), what))
}

// outsideSubset tells where files, which make up one package, leave the subset.
func outsideSubset(set *token.FileSet, files []*ast.File) []string {
	c := &checker{
		files:   set,
		info:    &types.Info{Uses: map[*ast.Ident]types.Object{}, Types: map[ast.Expr]types.TypeAndValue{}},
		callees: map[*ast.Ident]bool{},
	}
	// A package with an import does not pass, so none has to be found for it.
	config := types.Config{Error: func(error) {}}
	config.Check("impl", set, files, c.info)
	for _, file := range files {
		c.checkTop(file)
		ast.Inspect(file, c.noteCallee)
		ast.Inspect(file, c.checkNode)
	}
	c.checkFunctionValues()
	return c.found
}

func (c *checker) checkTop(file *ast.File) {
	if file.Name.Name != "impl" {
		c.report(file, "another package")
	}
	for _, spec := range file.Imports {
		c.report(spec, "an import")
	}
	for _, d := range file.Decls {
		if g, ok := d.(*ast.GenDecl); ok && g.Tok == token.VAR {
			c.report(g, "a package-level variable")
		}
		if f, ok := d.(*ast.FuncDecl); ok {
			c.checkFunc(f)
		}
	}
}

func (c *checker) checkFunc(f *ast.FuncDecl) {
	if f.Name.Name == "init" && f.Recv == nil {
		c.report(f, "func init")
	}
	if f.Type.TypeParams != nil {
		c.report(f, "a generic function")
	}
}

// noteCallee keeps the names that are called, so that any other use of a function is one as a value.
func (c *checker) noteCallee(n ast.Node) bool {
	call, ok := n.(*ast.CallExpr)
	if !ok {
		return true
	}
	switch f := call.Fun.(type) {
	case *ast.Ident:
		c.callees[f] = true
	case *ast.SelectorExpr:
		c.callees[f.Sel] = true
	}
	return true
}

func (c *checker) checkFunctionValues() {
	for name, object := range c.info.Uses {
		if _, ok := object.(*types.Func); ok && !c.callees[name] {
			c.report(name, "a function as a value")
		}
	}
}

func (c *checker) checkNode(n ast.Node) bool {
	switch n := n.(type) {
	case *ast.FuncDecl:
		// The type of a function that is declared is no function value; its parts are looked at by themselves.
		c.checkParts(n)
		return false
	case *ast.TypeSpec:
		if n.TypeParams != nil {
			c.report(n, "a generic type")
		}
	case *ast.InterfaceType:
		c.report(n, "an interface type")
	case *ast.TypeSwitchStmt, *ast.TypeAssertExpr:
		c.report(n, "a question about a type")
	case *ast.FuncLit, *ast.FuncType:
		c.report(n, "a function value")
	case *ast.MapType:
		c.report(n, "a map")
	case *ast.GoStmt, *ast.ChanType, *ast.SendStmt, *ast.SelectStmt, *ast.DeferStmt:
		c.report(n, "something at the same time, or later")
	case *ast.BranchStmt:
		if n.Tok == token.GOTO {
			c.report(n, "a goto")
		}
	case *ast.Ident:
		c.checkName(n)
	case *ast.BasicLit:
		if n.Kind == token.FLOAT || n.Kind == token.IMAG {
			c.report(n, "a number that is not whole")
		}
	case *ast.AssignStmt:
		c.checkAssign(n)
	case *ast.SliceExpr:
		if n.Slice3 {
			c.report(n, "a slice expression with three indexes")
		}
	case *ast.BinaryExpr:
		c.checkNil(n)
	}
	return true
}

func (c *checker) checkParts(f *ast.FuncDecl) {
	if f.Recv != nil {
		ast.Inspect(f.Recv, c.checkNode)
	}
	ast.Inspect(f.Type.Params, c.checkNode)
	if f.Type.Results != nil {
		ast.Inspect(f.Type.Results, c.checkNode)
	}
	if f.Body != nil {
		ast.Inspect(f.Body, c.checkNode)
	}
}

func (c *checker) checkName(name *ast.Ident) {
	object := c.info.Uses[name]
	if object == nil || object.Parent() != types.Universe {
		return
	}
	switch name.Name {
	case "any", "error", "comparable":
		c.report(name, "an interface type")
	case "panic", "recover", "cap":
		c.report(name, "the built-in function "+name.Name)
	case "float32", "float64", "complex64", "complex128", "complex", "real", "imag":
		c.report(name, "a number that is not whole")
	}
}

// checkAssign lets locals be written several at once, and elements and fields one at a time.
func (c *checker) checkAssign(a *ast.AssignStmt) {
	if len(a.Lhs) < 2 {
		return
	}
	for _, to := range a.Lhs {
		if _, ok := to.(*ast.Ident); !ok {
			c.report(a, "elements or fields among several that are written at once")
		}
	}
}

func (c *checker) checkNil(b *ast.BinaryExpr) {
	if b.Op != token.EQL && b.Op != token.NEQ {
		return
	}
	left, right := c.info.Types[b.X], c.info.Types[b.Y]
	if right.IsNil() && isSlice(left.Type) || left.IsNil() && isSlice(right.Type) {
		c.report(b, "a slice that is compared with nil")
	}
}

func isSlice(t types.Type) bool {
	if t == nil {
		return false
	}
	_, ok := t.Underlying().(*types.Slice)
	return ok
}

// parsed has the files of the program, or why they cannot be read.
type parsed struct {
	set   *token.FileSet
	files []*ast.File
	err   error
}

// parseOnce is there because the tests of this file ask for the functions of the program thousands of times.
var parseOnce = sync.OnceValue(parseFiles)

func parseFiles() parsed {
	paths, err := filepath.Glob("../impl/*.go")
	if err != nil || len(paths) == 0 {
		return parsed{err: fmt.Errorf("no files of the program: %v", err)}
	}
	p := parsed{set: token.NewFileSet()}
	for _, path := range paths {
		file, err := parser.ParseFile(p.set, path, nil, parser.SkipObjectResolution)
		if err != nil {
			return parsed{err: err}
		}
		p.files = append(p.files, file)
	}
	return p
}

func parseProgram(t *testing.T) (*token.FileSet, []*ast.File) {
	t.Helper()
	p := parseOnce()
	if p.err != nil {
		t.Fatal(p.err)
	}
	return p.set, p.files
}

func TestTheProgramKeepsToTheSubset(t *testing.T) {
	for _, found := range outsideSubset(parseProgram(t)) {
		t.Error(found)
	}
}

// inSubset parses a piece of a program and tells what is found in it.
func inSubset(t *testing.T, source string) []string {
	t.Helper()
	set := token.NewFileSet()
	file, err := parser.ParseFile(set, "piece.go", "package impl\n"+source, parser.SkipObjectResolution)
	if err != nil {
		t.Fatalf("%s: %v", source, err)
	}
	return outsideSubset(set, []*ast.File{file})
}

func TestWhatIsOutsideTheSubsetIsFound(t *testing.T) {
	sources := []string{
		"import \"strconv\"\nfunc f(n int) string { return strconv.Itoa(n) }",
		"var table = []int{1}",
		"func init() {}",
		"type shape interface{ area() int }",
		"func f(x any) {}",
		"func f() error { return nil }",
		"func f() { g := func() {}; g() }",
		"func f() {}\nfunc g() { h := f; h() }",
		"type s struct{}\nfunc (x s) m() {}\nfunc g(x s) { h := x.m; h() }",
		"type s struct{ f func() }",
		"func f(m map[int]int) {}",
		"func f() { go f() }",
		"func f(c chan int) {}",
		"func f() { select {} }",
		"func f() { defer f() }",
		"func f() { panic(1) }",
		"func f() { recover() }",
		"func f() {\nagain:\n\tgoto again\n}",
		"func f[T int](x T) {}",
		"type s[T int] struct{ x T }",
		"func f(x float64) {}",
		"const half = 0.5",
		"const i = 1i",
		"func f(a []int) { a[0], a[1] = a[1], a[0] }",
		"func f(a []int) int { return cap(a) }",
		"func f(a []int) []int { return a[0:1:1] }",
		"func f(a []int) bool { return a == nil }",
	}
	for _, source := range sources {
		if len(inSubset(t, source)) == 0 {
			t.Errorf("nothing was found in %q", source)
		}
	}
}

func TestWhatIsInTheSubsetIsLeftAlone(t *testing.T) {
	sources := []string{
		"const most = 3\nfunc f(n int) int { return n % most }",
		"type s struct{ a []int }\nfunc (x s) m() int { return len(x.a) }\nfunc f(x s) int { return x.m() }",
		"func f(x, y int) int { x, y = y, x; return x - y }",
		"func f() (int, bool) { return 1, true }\nfunc g() int { n, ok := f(); if !ok { return 0 }; return n }",
		"func f(cap int) int { return cap }",
		"func f(a []int) []int { b := append([]int{}, a[1:]...); return b }",
	}
	for _, source := range sources {
		for _, found := range inSubset(t, source) {
			t.Errorf("%q: %s", source, found)
		}
	}
}

// functionsOf has the functions of the program with a name.
func functionsOf(t *testing.T, name string) []*ast.FuncDecl {
	t.Helper()
	found := []*ast.FuncDecl{}
	_, files := parseProgram(t)
	for _, file := range files {
		for _, d := range file.Decls {
			if f, ok := d.(*ast.FuncDecl); ok && f.Name.Name == name {
				found = append(found, f)
			}
		}
	}
	return found
}

// operatorsOf tells which binary operators a function of the program has.
func operatorsOf(t *testing.T, name string) map[token.Token]bool {
	t.Helper()
	operators := map[token.Token]bool{}
	note := func(n ast.Node) bool {
		if b, ok := n.(*ast.BinaryExpr); ok {
			operators[b.Op] = true
		}
		return true
	}
	for _, f := range functionsOf(t, name) {
		ast.Inspect(f, note)
	}
	return operators
}

func TestWordsAreTakenApartByDivision(t *testing.T) {
	for _, name := range []string{"InsFrom", "EntryFrom"} {
		operators := operatorsOf(t, name)
		if !operators[token.QUO] || !operators[token.REM] {
			t.Errorf("%s does not divide", name)
		}
		for _, bits := range []token.Token{token.AND, token.OR, token.XOR, token.AND_NOT, token.SHL, token.SHR} {
			if operators[bits] {
				t.Errorf("%s has %s", name, bits)
			}
		}
	}
}

// isEntryOf tells whether a node reads an entry (EntryFrom) out of an element of the slice with that name.
func isEntryOf(n ast.Node, slice string) bool {
	call, ok := n.(*ast.CallExpr)
	if !ok || len(call.Args) != 1 {
		return false
	}
	if f, ok := call.Fun.(*ast.Ident); !ok || f.Name != "EntryFrom" {
		return false
	}
	element, ok := call.Args[0].(*ast.IndexExpr)
	if !ok {
		return false
	}
	of, ok := element.X.(*ast.Ident)
	return ok && of.Name == slice
}

func TestTablesLieInMemory(t *testing.T) {
	found := false
	note := func(n ast.Node) bool {
		found = found || isEntryOf(n, "mem")
		return true
	}
	for _, f := range functionsOf(t, "Walk") {
		ast.Inspect(f, note)
	}
	if !found {
		t.Error("Walk reads no entry out of the memory")
	}
}

// calledFrom has the names of the functions that a function of the program calls, and those that they call.
func calledFrom(t *testing.T, name string) map[string]bool {
	t.Helper()
	called := map[string]bool{}
	rest := []string{name}
	note := func(n ast.Node) bool {
		call, ok := n.(*ast.CallExpr)
		if !ok {
			return true
		}
		if f, ok := call.Fun.(*ast.Ident); ok && !called[f.Name] {
			called[f.Name] = true
			rest = append(rest, f.Name)
		}
		return true
	}
	for len(rest) > 0 {
		next := rest[0]
		rest = rest[1:]
		for _, f := range functionsOf(t, next) {
			ast.Inspect(f, note)
		}
	}
	return called
}

func TestAStepIsAWalkAndAnInstruction(t *testing.T) {
	for _, name := range []string{"BareStep", "BareRun"} {
		called := calledFrom(t, name)
		for _, part := range []string{"Walk", "InsFrom", "InsKernel"} {
			if !called[part] {
				t.Errorf("%s does not come to %s", name, part)
			}
		}
	}
}

// readsField tells whether a function of the program reads, or writes, a field with that name.
func readsField(t *testing.T, function string, field string) bool {
	t.Helper()
	found := false
	note := func(n ast.Node) bool {
		s, ok := n.(*ast.SelectorExpr)
		found = found || ok && s.Sel.Name == field
		return true
	}
	for _, f := range functionsOf(t, function) {
		ast.Inspect(f, note)
	}
	return found
}

func TestAMemoryOfAGuestIsPutTogetherFromFrames(t *testing.T) {
	found := false
	for name := range calledFrom(t, "HostView") {
		takesFrames := readsField(t, name, "Frame") && calledFrom(t, name)["copy"]
		found = found || takesFrames
	}
	if !found {
		t.Error("HostView copies nothing out of frames")
	}
}

// comesToField tells whether a function of the program, or one that it comes to, reads or writes a field with that name.
func comesToField(t *testing.T, function string, field string) bool {
	t.Helper()
	if readsField(t, function, field) {
		return true
	}
	for name := range calledFrom(t, function) {
		if readsField(t, name, field) {
			return true
		}
	}
	return false
}

func TestATableOfAGuestAndItsSlotsArePutTogether(t *testing.T) {
	for _, name := range []string{"ShadowOf", "ShadowWalk"} {
		if !calledFrom(t, name)["EntryFrom"] || !comesToField(t, name, "Root") {
			t.Errorf("%s does not come to the guest's table", name)
		}
		if !comesToField(t, name, "Pages") || !comesToField(t, name, "Frame") {
			t.Errorf("%s does not come to the guest's slots", name)
		}
	}
}

func TestEachExitIsAnswered(t *testing.T) {
	exits, steps := calledFrom(t, "GuestExit"), calledFrom(t, "HostStep")
	for _, part := range []string{"InsFrom", "InsKernel"} {
		if !exits[part] {
			t.Errorf("GuestExit does not come to %s", part)
		}
	}
	for _, part := range []string{"HostFill", "HostCopy", "InsFrom", "InsKernel"} {
		if !steps[part] {
			t.Errorf("HostStep does not come to %s", part)
		}
	}
	for _, name := range []string{"GuestExit", "HostStep"} {
		if calledFrom(t, name)["Walk"] {
			t.Errorf("%s goes by the tables of the guest alone", name)
		}
		if !comesToField(t, name, "Frame") || !comesToField(t, name, "Ready") {
			t.Errorf("%s does not come to the shadow table", name)
		}
	}
}

func TestLinesAreARowInOrder(t *testing.T) {
	for _, name := range []string{"TagsOk", "TagWalk"} {
		if !calledFrom(t, name)["EntryFrom"] || !comesToField(t, name, "Frame") || !comesToField(t, name, "Root") {
			t.Errorf("%s does not come to the shadow table", name)
		}
		for _, field := range []string{"Tag", "At", "What"} {
			if !comesToField(t, name, field) {
				t.Errorf("%s does not come to the %s of lines", name, field)
			}
		}
	}
	if !calledFrom(t, "TagWalk")["append"] {
		t.Error("TagWalk puts no line behind others")
	}
}

func TestTurnsAreNumbersOfGuests(t *testing.T) {
	if !calledFrom(t, "HostRun")["HostStep"] {
		t.Error("HostRun does no steps")
	}
	for name := range calledFrom(t, "FairTurns") {
		if operatorsOf(t, name)[token.QUO] {
			t.Errorf("%s divides, where FairTurns compares exactly", name)
		}
	}
	if operatorsOf(t, "FairTurns")[token.QUO] || !calledFrom(t, "FairTurns")["append"] {
		t.Error("FairTurns does not put turns behind each other without dividing")
	}
}

// ownParts has the functions of the program to which a function comes, but for those to which the question whether a host is ok comes, too.
func ownParts(t *testing.T, name string) []string {
	t.Helper()
	asked := calledFrom(t, "HostOk")
	parts := []string{}
	for part := range calledFrom(t, name) {
		if !asked[part] && len(functionsOf(t, part)) > 0 {
			parts = append(parts, part)
		}
	}
	return parts
}

func TestFramesWithTheSameWordsAreFoundByLookingAtAll(t *testing.T) {
	compares, reads := false, false
	for _, part := range ownParts(t, "HostShare") {
		operators := operatorsOf(t, part)
		compares = compares || operators[token.EQL] || operators[token.NEQ]
		reads = reads || readsField(t, part, "Words") && readsField(t, part, "Frame")
	}
	if !compares || !reads {
		t.Errorf("HostShare compares words: %v, and comes to those of frames: %v", compares, reads)
	}
	for _, name := range []string{"HostShare", "HostZero"} {
		for _, part := range []string{"HostFill", "HostCopy", "HostStep"} {
			if calledFrom(t, name)[part] {
				t.Errorf("%s comes to %s, and does not look at frames alone", name, part)
			}
		}
	}
}

func TestSlotsOfClonesAreCopiedAndTheirFramesAreShared(t *testing.T) {
	slots := false
	for _, part := range append(ownParts(t, "HostClone"), "HostClone") {
		slots = slots || readsField(t, part, "Pages") && calledFrom(t, part)["copy"]
	}
	if !slots || !comesToField(t, "HostClone", "Write") || !comesToField(t, "HostClone", "Dirty") {
		t.Error("HostClone does not copy slots, and tell what may be written, and was")
	}
	for _, part := range []string{"HostFill", "HostCopy", "HostBoot", "HostBack", "HostFree", "HostView", "freeFrames", "withPages"} {
		if calledFrom(t, "HostClone")[part] {
			t.Errorf("HostClone comes to %s, and does not share frames alone", part)
		}
	}
	if !calledFrom(t, "HostBack")["copy"] || !comesToField(t, "HostBack", "Frame") || !comesToField(t, "HostGive", "Frame") {
		t.Error("HostBack and HostGive do not come to frames")
	}
}

func TestWhatIsLeftIsASetOfPages(t *testing.T) {
	for _, name := range []string{"MoveOk", "MoveDo", "MoveEnd", "MoveAll"} {
		if !comesToField(t, name, "Left") {
			t.Errorf("%s does not come to what is left", name)
		}
	}
	for _, part := range []string{"MoveBegin", "MoveDo", "MoveEnd"} {
		if !calledFrom(t, "MoveAll")[part] {
			t.Errorf("MoveAll does not come to %s", part)
		}
	}
	// A step comes to both, too; but pages that are sent need them by themselves.
	steps, sends := calledFrom(t, "HostStep"), false
	for _, part := range ownParts(t, "MoveDo") {
		called := calledFrom(t, part)
		sends = sends || !steps[part] && !called["HostStep"] && called["HostFill"] && called["HostCopy"]
	}
	if !calledFrom(t, "MoveDo")["HostStep"] || !sends {
		t.Error("MoveDo does not do steps on one host, and fill and copy pages on the other one")
	}
}

func TestMapsArePutTogether(t *testing.T) {
	maps, frames := ownParts(t, "NestMaps"), ownParts(t, "NestFrames")
	asked := append(ownParts(t, "NestOk"), "NestOk")
	together := func(part string) bool {
		return slices.Contains(frames, part) && !slices.Contains(asked, part)
	}
	if !slices.ContainsFunc(maps, together) {
		t.Errorf("NestMaps comes to %v, NestFrames to %v, and nothing of that puts maps together for both", maps, frames)
	}
	slots := func(part string) bool {
		return readsField(t, part, "Frame")
	}
	if !slices.ContainsFunc(frames, slots) {
		t.Error("NestFrames does not come to the frames of slots")
	}
	for _, name := range []string{"NestMaps", "NestFrames"} {
		for _, part := range []string{"NestWords", "HostView", "memFrom"} {
			if calledFrom(t, name)[part] {
				t.Errorf("%s comes to %s, and does not put maps together alone", name, part)
			}
		}
	}
}
