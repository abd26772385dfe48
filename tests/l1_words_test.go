package tests

import (
	"math"
	"testing"

	"loop.example/guesthouse/impl"
)

// wordNumbers has all words, and numbers on both sides of them, near and far.
func wordNumbers() []int {
	numbers := []int{
		math.MinInt, math.MinInt + 1, -1 << 32, -1<<32 + 579, -8192, -8191, -4097, -4096, -4095, -4094,
		8191, 8192, 65535, 1 << 32, 1<<32 + 579, math.MaxInt - 1, math.MaxInt,
	}
	for n := -300; n <= impl.WordMost+300; n++ {
		numbers = append(numbers, n)
	}
	return numbers
}

// fieldNumbers has all numbers in 0..most, and numbers on both sides of them.
func fieldNumbers(most int) []int {
	numbers := []int{
		math.MinInt, -4096, -256, -64, -16, -4, -2, -1,
		most + 1, most + 2, 2*most + 2, 4096, math.MaxInt,
	}
	for n := 0; n <= most; n++ {
		numbers = append(numbers, n)
	}
	return numbers
}

// instructions has all instructions that are ok, and others with one or more fields outside their ranges.
func instructions() []impl.Ins {
	list := []impl.Ins{}
	for _, op := range fieldNumbers(15) {
		for _, a := range fieldNumbers(3) {
			for _, n := range fieldNumbers(63) {
				list = append(list, impl.Ins{Op: op, A: a, N: n})
			}
		}
	}
	return list
}

func isIn(n int, most int) bool {
	return n >= 0 && n <= most
}

func wantInsOk(i impl.Ins) bool {
	return isIn(i.Op, 15) && isIn(i.A, 3) && isIn(i.N, 63)
}

type operation struct {
	name   string
	op     int
	number int
	kernel bool
}

// operations has the sixteen operations by their names in the document, and who may do them.
func operations() []operation {
	return []operation{
		{"OpStop", impl.OpStop, 0, true},
		{"OpPut", impl.OpPut, 1, false},
		{"OpAdd", impl.OpAdd, 2, false},
		{"OpLoad", impl.OpLoad, 3, false},
		{"OpStore", impl.OpStore, 4, false},
		{"OpJump", impl.OpJump, 5, false},
		{"OpBranch", impl.OpBranch, 6, false},
		{"OpCall", impl.OpCall, 7, false},
		{"OpRoot", impl.OpRoot, 8, true},
		{"OpVector", impl.OpVector, 9, true},
		{"OpTimer", impl.OpTimer, 10, true},
		{"OpBack", impl.OpBack, 11, true},
		{"OpMask", impl.OpMask, 12, true},
		{"OpOut", impl.OpOut, 13, true},
		{"OpIn", impl.OpIn, 14, true},
		{"OpSub", impl.OpSub, 15, false},
	}
}

func TestConstantsOfWords(t *testing.T) {
	if impl.WordMost != 4095 {
		t.Errorf("WordMost is %d", impl.WordMost)
	}
	for _, o := range operations() {
		if o.op != o.number {
			t.Errorf("%s is %d, not %d", o.name, o.op, o.number)
		}
	}
}

func TestWordOkAtTheEnds(t *testing.T) {
	cases := []struct {
		n    int
		want bool
	}{
		{math.MinInt, false}, {-4096, false}, {-1, false},
		{0, true}, {1, true}, {579, true}, {4094, true}, {4095, true},
		{4096, false}, {4097, false}, {8191, false}, {math.MaxInt, false},
	}
	for _, c := range cases {
		if got := impl.WordOk(c.n); got != c.want {
			t.Errorf("WordOk(%d) is %v", c.n, got)
		}
	}
}

func TestInsOkAtTheEnds(t *testing.T) {
	cases := []struct {
		i    impl.Ins
		want bool
	}{
		{impl.Ins{}, true},
		{impl.Ins{Op: 15, A: 3, N: 63}, true},
		{impl.Ins{Op: 15}, true}, {impl.Ins{A: 3}, true}, {impl.Ins{N: 63}, true},
		{impl.Ins{Op: -1}, false}, {impl.Ins{A: -1}, false}, {impl.Ins{N: -1}, false},
		{impl.Ins{Op: 16}, false}, {impl.Ins{A: 4}, false}, {impl.Ins{N: 64}, false},
		{impl.Ins{Op: math.MaxInt}, false}, {impl.Ins{A: math.MaxInt}, false}, {impl.Ins{N: math.MaxInt}, false},
		{impl.Ins{Op: math.MinInt}, false}, {impl.Ins{A: math.MinInt}, false}, {impl.Ins{N: math.MinInt}, false},
	}
	for _, c := range cases {
		if got := impl.InsOk(c.i); got != c.want {
			t.Errorf("InsOk(%+v) is %v", c.i, got)
		}
	}
}

func TestInsOkOfAll(t *testing.T) {
	for _, i := range instructions() {
		if got := impl.InsOk(i); got != wantInsOk(i) {
			t.Fatalf("InsOk(%+v) is %v", i, got)
		}
	}
}

func TestInsWordAndFromByHand(t *testing.T) {
	cases := []struct {
		i impl.Ins
		w int
	}{
		{impl.Ins{}, 0},
		{impl.Ins{N: 1}, 1},
		{impl.Ins{N: 63}, 63},
		{impl.Ins{A: 1}, 64},
		{impl.Ins{A: 3, N: 63}, 255},
		{impl.Ins{Op: impl.OpPut}, 256},
		{impl.Ins{Op: impl.OpAdd, A: 1, N: 3}, 579},
		{impl.Ins{Op: impl.OpSub}, 3840},
		{impl.Ins{Op: impl.OpSub, A: 3, N: 62}, 4094},
		{impl.Ins{Op: impl.OpSub, A: 3, N: 63}, 4095},
	}
	for _, c := range cases {
		if got := impl.InsWord(c.i); got != c.w {
			t.Errorf("InsWord(%+v) is %d, not %d", c.i, got, c.w)
		}
		if got := impl.InsFrom(c.w); got != c.i {
			t.Errorf("InsFrom(%d) is %+v, not %+v", c.w, got, c.i)
		}
	}
}

func TestP1InstructionsCanBeReadBack(t *testing.T) {
	for _, i := range instructions() {
		if !wantInsOk(i) {
			continue
		}
		w := impl.InsWord(i)
		if !impl.WordOk(w) {
			t.Fatalf("InsWord(%+v) is %d, which is no word", i, w)
		}
		if back := impl.InsFrom(w); back != i {
			t.Fatalf("%+v is read back from %d as %+v", i, w, back)
		}
	}
}

func TestP1OthersAreNoWords(t *testing.T) {
	for _, i := range instructions() {
		if wantInsOk(i) {
			continue
		}
		if w := impl.InsWord(i); w != -1 {
			t.Fatalf("InsWord(%+v) is %d", i, w)
		}
	}
}

func TestP2EachWordIsAnInstruction(t *testing.T) {
	for w := 0; w <= 4095; w++ {
		i := impl.InsFrom(w)
		if !impl.InsOk(i) {
			t.Fatalf("InsFrom(%d) is %+v, which is none", w, i)
		}
		if back := impl.InsWord(i); back != w {
			t.Fatalf("the word %d comes back as %d", w, back)
		}
	}
}

func TestP2OthersAreTheZeroValue(t *testing.T) {
	for _, n := range wordNumbers() {
		if isIn(n, 4095) {
			continue
		}
		if i := impl.InsFrom(n); i != (impl.Ins{}) {
			t.Fatalf("InsFrom(%d) is %+v", n, i)
		}
	}
}

// divideDown divides downwards, also below 0, where Go divides towards 0.
func divideDown(n int, by int) int {
	q := n / by
	if n%by < 0 {
		q--
	}
	return q
}

func TestP47WordsHaveTwelveBits(t *testing.T) {
	for _, n := range wordNumbers() {
		want := divideDown(n, 4096) == 0
		if got := impl.WordOk(n); got != want {
			t.Fatalf("WordOk(%d) is %v", n, got)
		}
	}
}

func TestP48AnInstructionOfNothingIsOne(t *testing.T) {
	for _, i := range instructions() {
		if impl.InsOk(i) && !impl.InsOk(impl.Ins{Op: i.Op}) {
			t.Fatalf("%+v is an instruction, but not of nothing", i)
		}
	}
	for _, o := range operations() {
		if !impl.InsOk(impl.Ins{Op: o.number}) {
			t.Errorf("%s of nothing is no instruction", o.name)
		}
	}
}

func TestP49RegisterAndNumberDoNotMatterToWhoMay(t *testing.T) {
	for _, o := range operations() {
		for a := 0; a <= 3; a++ {
			for n := 0; n <= 63; n++ {
				i := impl.Ins{Op: o.number, A: a, N: n}
				if got := impl.InsKernel(i); got != o.kernel {
					t.Fatalf("InsKernel(%s %d %d) is %v", o.name, a, n, got)
				}
			}
		}
	}
}

func TestP49OthersAreOfNobody(t *testing.T) {
	for _, i := range instructions() {
		if !wantInsOk(i) && impl.InsKernel(i) {
			t.Fatalf("InsKernel(%+v) is true", i)
		}
	}
}
