package tests

import (
	"math"
	"reflect"
	"slices"
	"testing"

	"loop.example/guesthouse/impl"
)

func TestConstantsOfMachines(t *testing.T) {
	causes := []int{impl.CauseNone, impl.CauseCall, impl.CauseFault, impl.CauseMay, impl.CauseTick}
	if !slices.Equal(causes, []int{0, 1, 2, 3, 4}) {
		t.Errorf("the causes are %v", causes)
	}
	if impl.OutMost != 30 {
		t.Errorf("OutMost is %d", impl.OutMost)
	}
}

func sameCore(a impl.Core, b impl.Core) bool {
	if !slices.Equal(a.Regs, b.Regs) {
		return false
	}
	a.Regs, b.Regs = nil, nil
	return reflect.DeepEqual(a, b)
}

// sameBare takes a slice that is nil and one that is empty for the same.
func sameBare(a impl.Bare, b impl.Bare) bool {
	return sameCore(a.C, b.C) && slices.Equal(a.Mem, b.Mem) && slices.Equal(a.In, b.In) && slices.Equal(a.Out, b.Out)
}

func isNoBare(b impl.Bare) bool {
	return sameBare(b, impl.Bare{})
}

func clonedBare(b impl.Bare) impl.Bare {
	b.C.Regs = slices.Clone(b.C.Regs)
	b.Mem = slices.Clone(b.Mem)
	b.In = slices.Clone(b.In)
	b.Out = slices.Clone(b.Out)
	return b
}

// coreNumber is a number of a core, with its least and its greatest value.
type coreNumber struct {
	name  string
	least int
	most  int
	put   func(c *impl.Core, n int)
}

func coreNumbers() []coreNumber {
	list := []coreNumber{
		{"Pc", 0, 63, func(c *impl.Core, n int) { c.Pc = n }},
		{"Root", -1, 7, func(c *impl.Core, n int) { c.Root = n }},
		{"Vector", 0, 63, func(c *impl.Core, n int) { c.Vector = n }},
		{"Saved", 0, 63, func(c *impl.Core, n int) { c.Saved = n }},
		{"Cause", 0, 4, func(c *impl.Core, n int) { c.Cause = n }},
		{"Bad", 0, 63, func(c *impl.Core, n int) { c.Bad = n }},
		{"Timer", 0, 4095, func(c *impl.Core, n int) { c.Timer = n }},
	}
	for k := 0; k < 4; k++ {
		list = append(list, coreNumber{"a register", 0, 4095, func(c *impl.Core, n int) { c.Regs[k] = n }})
	}
	return list
}

// flagged has a core with each choice of what is only true or false.
func flagged(c impl.Core) []impl.Core {
	list := []impl.Core{}
	for bits := 0; bits < 32; bits++ {
		turned := c
		turned.Regs = slices.Clone(c.Regs)
		turned.SavedUser = bits&1 != 0
		turned.Waits = bits&2 != 0
		turned.User = bits&4 != 0
		turned.On = bits&8 != 0
		turned.Stopped = bits&16 != 0
		list = append(list, turned)
	}
	return list
}

func plainCore() impl.Core {
	return impl.Core{Regs: []int{1, 20, 300, 4000}, Pc: 5, Root: -1, Vector: 50, Saved: 33, Cause: 1, Bad: 44, Timer: 17}
}

// cores has cores that are ok, with each number at both ends of its range, next to them and between.
func cores() []impl.Core {
	list := flagged(plainCore())
	list = append(list, impl.Core{Regs: make([]int, 4)})
	for _, f := range coreNumbers() {
		for _, n := range []int{f.least, f.least + 1, (f.least + f.most) / 2, f.most - 1, f.most} {
			c := plainCore()
			f.put(&c, n)
			list = append(list, c)
		}
	}
	return list
}

// brokenCores has cores with one number outside of its range, or with more or fewer registers.
func brokenCores() []impl.Core {
	list := []impl.Core{{}, {Regs: []int{}}}
	for _, f := range coreNumbers() {
		for _, n := range []int{math.MinInt, -4096, f.least - 1, f.most + 1, 2 * f.most, 1 << 32, math.MaxInt} {
			c := plainCore()
			f.put(&c, n)
			list = append(list, c)
		}
	}
	for _, many := range []int{0, 1, 2, 3, 5, 6, 8, 64} {
		c := plainCore()
		c.Regs = make([]int, many)
		list = append(list, c)
	}
	return list
}

func TestCoreOkOfCores(t *testing.T) {
	for _, c := range cores() {
		if !impl.CoreOk(c) {
			t.Fatalf("CoreOk(%+v) is false", c)
		}
	}
}

func TestCoreOkOfOthers(t *testing.T) {
	for _, c := range brokenCores() {
		for _, turned := range flagged(c) {
			if impl.CoreOk(turned) {
				t.Fatalf("CoreOk(%+v) is true", turned)
			}
		}
	}
}

func TestCoreOkOfAllNumbers(t *testing.T) {
	for _, f := range coreNumbers() {
		for n := f.least - 100; n <= f.most+100; n++ {
			c := plainCore()
			f.put(&c, n)
			if got := impl.CoreOk(c); got != (f.least <= n && n <= f.most) {
				t.Fatalf("with %s %d it is %v", f.name, n, got)
			}
		}
	}
}

func TestP52WhoeverIsAtItDoesNotMatter(t *testing.T) {
	for _, c := range append(cores(), brokenCores()...) {
		kernel, users := c, c
		kernel.User = false
		users.User = true
		if impl.CoreOk(kernel) != impl.CoreOk(users) {
			t.Fatalf("it matters to %+v who is at it", c)
		}
	}
	c := plainCore()
	c.User = true
	if !impl.CoreOk(c) {
		t.Error("a core with users at it is none")
	}
}

// rowsOfWords has rows of words, of all lengths that are ok.
func rowsOfWords() [][]int {
	list := [][]int{nil, {}, {0}, {4095}, slices.Repeat([]int{4095}, 30)}
	for many := 1; many <= 30; many++ {
		list = append(list, mixedMem(many)[:many])
	}
	return list
}

// brokenRows has rows that are too long, or hold what is no word at one place.
func brokenRows() [][]int {
	list := [][]int{make([]int, 31), make([]int, 32), make([]int, 60), make([]int, 1000)}
	for _, n := range noWords() {
		list = append(list, []int{n}, []int{n, 0}, []int{0, n})
		for at := 0; at < 30; at++ {
			list = append(list, with(make([]int, 30), at, n))
		}
	}
	return list
}

func plainBare() impl.Bare {
	return impl.Bare{C: plainCore(), Mem: mixedMem(3), In: []int{5, 6}, Out: []int{7}}
}

// machines has machines that are ok, with each part of them at the ends of what it may be.
func machines() []impl.Bare {
	list := []impl.Bare{{C: impl.Core{Regs: make([]int, 4)}, Mem: make([]int, 64)}}
	for _, c := range cores() {
		list = append(list, impl.Bare{C: c, Mem: mixedMem(4), In: []int{1}, Out: []int{2}})
	}
	for _, mem := range memories() {
		list = append(list, impl.Bare{C: plainCore(), Mem: mem})
	}
	for _, row := range rowsOfWords() {
		in, out := plainBare(), plainBare()
		in.In = slices.Clone(row)
		out.Out = slices.Clone(row)
		list = append(list, in, out)
	}
	return list
}

// brokenMachines has machines with one part that is not ok.
func brokenMachines() []impl.Bare {
	list := []impl.Bare{{}}
	for _, c := range brokenCores() {
		b := plainBare()
		b.C = c
		list = append(list, b)
	}
	for _, mem := range brokenMemories() {
		b := plainBare()
		b.Mem = mem
		list = append(list, b)
	}
	return append(list, brokenTalkers()...)
}

// brokenTalkers has machines of which only the words in, or those out, are not ok.
func brokenTalkers() []impl.Bare {
	list := []impl.Bare{}
	for _, row := range brokenRows() {
		in, out := plainBare(), plainBare()
		in.In = row
		out.Out = row
		list = append(list, in, out)
	}
	return list
}

func TestBareOkOfMachines(t *testing.T) {
	for _, b := range machines() {
		if !impl.BareOk(b) {
			t.Fatalf("BareOk(%+v) is false", b)
		}
	}
}

func TestBareOkOfOthers(t *testing.T) {
	for _, b := range brokenMachines() {
		if impl.BareOk(b) {
			t.Fatalf("BareOk(%+v) is true", b)
		}
	}
}

func withoutWords(b impl.Bare) impl.Bare {
	b.In, b.Out = nil, nil
	return b
}

func TestP53WithoutWordsInAndOutAMachineIsOne(t *testing.T) {
	for _, b := range append(machines(), brokenTalkers()...) {
		if !impl.BareOk(withoutWords(b)) {
			t.Fatalf("%+v is no machine without words in and out", b)
		}
		b.In, b.Out = []int{}, []int{}
		if !impl.BareOk(b) {
			t.Fatalf("%+v is no machine with empty rows of words", b)
		}
	}
}

func TestBareStepOfOthers(t *testing.T) {
	for _, b := range brokenMachines() {
		if got := impl.BareStep(b); !isNoBare(got) {
			t.Fatalf("a step of %+v is %+v", b, got)
		}
		b.C.Stopped = true
		if got := impl.BareStep(b); !isNoBare(got) {
			t.Fatalf("a step of %+v is %+v", b, got)
		}
	}
}

func TestBareRunOfOthers(t *testing.T) {
	for _, b := range brokenMachines() {
		for _, steps := range []int{-1, 0, 1, 300, 301} {
			if got := impl.BareRun(b, steps); !isNoBare(got) {
				t.Fatalf("%d steps of %+v are %+v", steps, b, got)
			}
		}
	}
}

func TestBareRunOfTooManyOrTooFewSteps(t *testing.T) {
	stopped := plainBare()
	stopped.C.Stopped = true
	for _, b := range []impl.Bare{plainBare(), stopped, busyBare()} {
		for _, steps := range []int{math.MinInt, -300, -2, -1, 301, 302, 600, 1 << 32, math.MaxInt} {
			if got := impl.BareRun(b, steps); !isNoBare(got) {
				t.Fatalf("%d steps are %+v", steps, got)
			}
		}
		for _, steps := range []int{0, 1, 299, 300} {
			if got := impl.BareRun(b, steps); !impl.BareOk(got) {
				t.Fatalf("%d steps are %+v", steps, got)
			}
		}
	}
}

// handBare is a machine whose next instruction is that one; its words elsewhere tell their places.
func handBare(i impl.Ins, user bool) impl.Bare {
	b := impl.Bare{
		C: impl.Core{
			Regs: []int{40, 7, 4095, 0}, Pc: 5, Root: -1, Vector: 50, Saved: 33, SavedUser: true,
			Cause: impl.CauseFault, Bad: 44, User: user,
		},
		Mem: make([]int, 64), In: []int{77, 88}, Out: []int{99},
	}
	for at := range b.Mem {
		b.Mem[at] = 1000 + at
	}
	b.Mem[5] = impl.InsWord(i)
	return b
}

// stepCase is an instruction, and what it does to a machine from which it goes on at the next place.
type stepCase struct {
	name string
	i    impl.Ins
	turn func(b *impl.Bare)
}

func checkBare(t *testing.T, name string, got impl.Bare, want impl.Bare) {
	t.Helper()
	if !sameBare(got, want) {
		t.Fatalf("%s:\n got %+v\nwant %+v", name, got, want)
	}
}

func checkCase(t *testing.T, c stepCase, user bool) {
	t.Helper()
	b := handBare(c.i, user)
	want := clonedBare(b)
	want.C.Pc = 6
	c.turn(&want)
	checkBare(t, c.name, impl.BareStep(b), want)
}

func reg(at int, w int) func(b *impl.Bare) {
	return func(b *impl.Bare) { b.C.Regs[at] = w }
}

func word(at int, w int) func(b *impl.Bare) {
	return func(b *impl.Bare) { b.Mem[at] = w }
}

func place(pc int) func(b *impl.Bare) {
	return func(b *impl.Bare) { b.C.Pc = pc }
}

// openCases has instructions that users and the kernel may do.
func openCases() []stepCase {
	return []stepCase{
		{"Put 0 63", impl.Ins{Op: impl.OpPut, A: 0, N: 63}, reg(0, 63)},
		{"Put 3 9", impl.Ins{Op: impl.OpPut, A: 3, N: 9}, reg(3, 9)},
		{"Put 2 0", impl.Ins{Op: impl.OpPut, A: 2, N: 0}, reg(2, 0)},
		{"Add 0 1", impl.Ins{Op: impl.OpAdd, A: 0, N: 1}, reg(0, 47)},
		{"Add 2 1, beyond the greatest word", impl.Ins{Op: impl.OpAdd, A: 2, N: 1}, reg(2, 6)},
		{"Add 2 2, to itself", impl.Ins{Op: impl.OpAdd, A: 2, N: 2}, reg(2, 4094)},
		{"Add 0 6, of register 2", impl.Ins{Op: impl.OpAdd, A: 0, N: 6}, reg(0, 39)},
		{"Add 3 60, of register 0", impl.Ins{Op: impl.OpAdd, A: 3, N: 60}, reg(3, 40)},
		{"Sub 0 1", impl.Ins{Op: impl.OpSub, A: 0, N: 1}, reg(0, 33)},
		{"Sub 1 0, below 0", impl.Ins{Op: impl.OpSub, A: 1, N: 0}, reg(1, 4063)},
		{"Sub 3 2, from 0", impl.Ins{Op: impl.OpSub, A: 3, N: 2}, reg(3, 1)},
		{"Sub 2 2, from itself", impl.Ins{Op: impl.OpSub, A: 2, N: 2}, reg(2, 0)},
		{"Sub 2 61, of register 1", impl.Ins{Op: impl.OpSub, A: 2, N: 61}, reg(2, 4088)},
		{"Load 1 0", impl.Ins{Op: impl.OpLoad, A: 1, N: 0}, reg(1, 1040)},
		{"Load 0 0, to the register of the address", impl.Ins{Op: impl.OpLoad, A: 0, N: 0}, reg(0, 1040)},
		{"Load 1 2, of an address modulo 64", impl.Ins{Op: impl.OpLoad, A: 1, N: 2}, reg(1, 1063)},
		{"Load 0 7, by register 3", impl.Ins{Op: impl.OpLoad, A: 0, N: 7}, reg(0, 1000)},
		{"Store 1 0", impl.Ins{Op: impl.OpStore, A: 1, N: 0}, word(40, 7)},
		{"Store 2 2, to an address modulo 64", impl.Ins{Op: impl.OpStore, A: 2, N: 2}, word(63, 4095)},
		{"Store 0 3, to the first address", impl.Ins{Op: impl.OpStore, A: 0, N: 3}, word(0, 40)},
		{"Store 2 60, by register 0", impl.Ins{Op: impl.OpStore, A: 2, N: 60}, word(40, 4095)},
		{"Jump 0", impl.Ins{Op: impl.OpJump, N: 0}, place(0)},
		{"Jump 63", impl.Ins{Op: impl.OpJump, A: 3, N: 63}, place(63)},
		{"Jump 5, to itself", impl.Ins{Op: impl.OpJump, A: 1, N: 5}, place(5)},
		{"Branch 0 20", impl.Ins{Op: impl.OpBranch, A: 0, N: 20}, place(20)},
		{"Branch 2 63", impl.Ins{Op: impl.OpBranch, A: 2, N: 63}, place(63)},
		{"Branch 3 20, by a register with 0", impl.Ins{Op: impl.OpBranch, A: 3, N: 20}, place(6)},
	}
}

func TestInstructionsOfAllByHand(t *testing.T) {
	for _, c := range openCases() {
		checkCase(t, c, false)
		checkCase(t, c, true)
	}
}

func letIn(on bool) func(b *impl.Bare) {
	return func(b *impl.Bare) { b.C.On = on }
}

func took(at int, w int, left []int) func(b *impl.Bare) {
	return func(b *impl.Bare) {
		b.C.Regs[at] = w
		b.In = left
	}
}

// kernelCases has instructions that the kernel alone may do.
func kernelCases() []stepCase {
	both := []int{77, 88}
	return []stepCase{
		{"Stop", impl.Ins{Op: impl.OpStop}, func(b *impl.Bare) { b.C.Stopped, b.C.Pc = true, 5 }},
		{"Stop 3 63", impl.Ins{Op: impl.OpStop, A: 3, N: 63}, func(b *impl.Bare) { b.C.Stopped, b.C.Pc = true, 5 }},
		{"Root 1", impl.Ins{Op: impl.OpRoot, A: 1}, func(b *impl.Bare) { b.C.Root = 7 }},
		{"Root 3, by a register with 0", impl.Ins{Op: impl.OpRoot, A: 3, N: 9}, func(b *impl.Bare) { b.C.Root = 0 }},
		{"Vector 0", impl.Ins{Op: impl.OpVector, A: 0}, func(b *impl.Bare) { b.C.Vector = 40 }},
		{"Vector 2, modulo 64", impl.Ins{Op: impl.OpVector, A: 2, N: 1}, func(b *impl.Bare) { b.C.Vector = 63 }},
		{"Timer 2", impl.Ins{Op: impl.OpTimer, A: 2}, func(b *impl.Bare) { b.C.Timer = 4095 }},
		{"Timer 0", impl.Ins{Op: impl.OpTimer, A: 0, N: 2}, func(b *impl.Bare) { b.C.Timer = 40 }},
		{"Back", impl.Ins{Op: impl.OpBack, A: 1, N: 2}, func(b *impl.Bare) { b.C.Pc, b.C.User, b.C.On = 33, true, true }},
		{"Mask 1", impl.Ins{Op: impl.OpMask, N: 1}, letIn(true)},
		{"Mask 63", impl.Ins{Op: impl.OpMask, A: 3, N: 63}, letIn(true)},
		{"Mask 62", impl.Ins{Op: impl.OpMask, A: 1, N: 62}, letIn(false)},
		{"Out 1", impl.Ins{Op: impl.OpOut, A: 1}, func(b *impl.Bare) { b.Out = []int{99, 7} }},
		{"Out 3, by a register with 0", impl.Ins{Op: impl.OpOut, A: 3, N: 1}, func(b *impl.Bare) { b.Out = []int{99, 0} }},
		{"In 1 0", impl.Ins{Op: impl.OpIn, A: 1, N: 0}, took(1, 77, []int{88})},
		{"In 1 1, the cause", impl.Ins{Op: impl.OpIn, A: 1, N: 1}, took(1, 2, both)},
		{"In 2 2, the bad address", impl.Ins{Op: impl.OpIn, A: 2, N: 2}, took(2, 44, both)},
		{"In 3 3, the saved place", impl.Ins{Op: impl.OpIn, A: 3, N: 3}, took(3, 33, both)},
		{"In 0 60, the first word", impl.Ins{Op: impl.OpIn, A: 0, N: 60}, took(0, 77, []int{88})},
		{"In 0 61, the cause", impl.Ins{Op: impl.OpIn, A: 0, N: 61}, took(0, 2, both)},
		{"In 0 62, the bad address", impl.Ins{Op: impl.OpIn, A: 0, N: 62}, took(0, 44, both)},
		{"In 0 63, the saved place", impl.Ins{Op: impl.OpIn, A: 0, N: 63}, took(0, 33, both)},
	}
}

func TestInstructionsOfTheKernelByHand(t *testing.T) {
	for _, c := range kernelCases() {
		checkCase(t, c, false)
	}
}

// trapTo makes a trap of a machine that it is given as it was before.
func trapTo(b impl.Bare, cause int, bad int, saved int) impl.Bare {
	b = clonedBare(b)
	b.C.Saved, b.C.SavedUser = saved, b.C.User
	b.C.Cause, b.C.Bad = cause, bad
	b.C.Pc, b.C.User, b.C.On = b.C.Vector, false, false
	return b
}

func TestUsersMayNotDoWhatTheKernelMay(t *testing.T) {
	for _, c := range kernelCases() {
		for _, on := range []bool{false, true} {
			b := handBare(c.i, true)
			b.C.On = on
			b.C.SavedUser = false
			checkBare(t, c.name, impl.BareStep(b), trapTo(b, impl.CauseMay, 0, 5))
		}
	}
}

func TestCallsByHand(t *testing.T) {
	for _, user := range []bool{false, true} {
		for _, on := range []bool{false, true} {
			b := handBare(impl.Ins{Op: impl.OpCall, A: 2, N: 17}, user)
			b.C.On = on
			b.C.SavedUser = !user
			checkBare(t, "Call", impl.BareStep(b), trapTo(b, impl.CauseCall, 0, 6))
		}
	}
}

func TestRootsByHand(t *testing.T) {
	cases := []struct{ w, root int }{
		{0, 0}, {1, 1}, {7, 7}, {8, -1}, {15, -1}, {16, 0}, {23, 7}, {24, -1}, {40, -1}, {4080, 0}, {4087, 7}, {4088, -1}, {4095, -1},
	}
	for _, c := range cases {
		for root := -1; root <= 7; root++ {
			b := handBare(impl.Ins{Op: impl.OpRoot, A: 1}, false)
			b.C.Regs[1] = c.w
			b.C.Root = root
			if root >= 0 {
				// The first page leads to itself by all tables here.
				b.Mem[root*8] = 1
				b.C.Pc = 6
				b.Mem[6] = impl.InsWord(impl.Ins{Op: impl.OpRoot, A: 1})
			}
			want := clonedBare(b)
			want.C.Root = c.root
			want.C.Pc = b.C.Pc + 1
			checkBare(t, "Root 1", impl.BareStep(b), want)
		}
	}
}

func TestPlacesGoOnFromTheLastToTheFirst(t *testing.T) {
	cases := []struct {
		i  impl.Ins
		pc int
	}{
		{impl.Ins{Op: impl.OpPut}, 0},
		{impl.Ins{Op: impl.OpAdd}, 0},
		{impl.Ins{Op: impl.OpSub}, 0},
		{impl.Ins{Op: impl.OpLoad}, 0},
		{impl.Ins{Op: impl.OpStore, A: 1, N: 1}, 0},
		{impl.Ins{Op: impl.OpBranch, A: 3, N: 9}, 0},
		{impl.Ins{Op: impl.OpRoot}, 0},
		{impl.Ins{Op: impl.OpVector}, 0},
		{impl.Ins{Op: impl.OpTimer}, 0},
		{impl.Ins{Op: impl.OpMask}, 0},
		{impl.Ins{Op: impl.OpOut}, 0},
		{impl.Ins{Op: impl.OpIn}, 0},
		{impl.Ins{Op: impl.OpStop}, 63},
		{impl.Ins{Op: impl.OpBranch, A: 1, N: 9}, 9},
		{impl.Ins{Op: impl.OpJump, N: 8}, 8},
		{impl.Ins{Op: impl.OpBack}, 33},
	}
	for _, c := range cases {
		b := handBare(c.i, false)
		b.Mem[63] = impl.InsWord(c.i)
		b.C.Pc = 63
		if got := impl.BareStep(b).C.Pc; got != c.pc {
			t.Errorf("%+v goes on from 63 at %d, not at %d", c.i, got, c.pc)
		}
	}
	b := handBare(impl.Ins{}, true)
	b.Mem[63] = impl.InsWord(impl.Ins{Op: impl.OpCall})
	b.C.Pc = 63
	checkBare(t, "Call at 63", impl.BareStep(b), trapTo(b, impl.CauseCall, 0, 0))
}

func TestBackIsForWhomItWas(t *testing.T) {
	for _, user := range []bool{false, true} {
		for _, on := range []bool{false, true} {
			b := handBare(impl.Ins{Op: impl.OpBack}, false)
			b.C.SavedUser, b.C.On = user, on
			want := clonedBare(b)
			want.C.Pc, want.C.User, want.C.On = 33, user, true
			checkBare(t, "Back", impl.BareStep(b), want)
		}
	}
}

func TestMaskLetsInOrNot(t *testing.T) {
	for n := 0; n <= 63; n++ {
		for _, on := range []bool{false, true} {
			b := handBare(impl.Ins{Op: impl.OpMask, N: n}, false)
			b.C.On = on
			if got := impl.BareStep(b).C.On; got != (n%2 == 1) {
				t.Fatalf("behind Mask %d interrupts are let in: %v", n, got)
			}
		}
	}
}

func TestNothingComesInWithoutWords(t *testing.T) {
	for _, empty := range [][]int{nil, {}} {
		b := handBare(impl.Ins{Op: impl.OpIn, A: 1}, false)
		b.In = empty
		want := clonedBare(b)
		want.C.Regs[1] = 0
		want.C.Pc = 6
		checkBare(t, "In 1 0", impl.BareStep(b), want)
	}
}

func TestTheLastWordComesIn(t *testing.T) {
	b := handBare(impl.Ins{Op: impl.OpIn, A: 1}, false)
	b.In = []int{4095}
	want := clonedBare(b)
	want.C.Regs[1] = 4095
	want.C.Pc = 6
	want.In = nil
	checkBare(t, "In 1 0", impl.BareStep(b), want)
}

func TestAsMuchGoesOutAsMay(t *testing.T) {
	for many := 0; many <= 30; many++ {
		b := handBare(impl.Ins{Op: impl.OpOut, A: 1}, false)
		b.Out = slices.Repeat([]int{3}, many)
		want := clonedBare(b)
		want.C.Pc = 6
		if many < 30 {
			want.Out = append(want.Out, 7)
		}
		checkBare(t, "Out 1", impl.BareStep(b), want)
	}
}

// timerCase is a timer before a step and behind it.
type timerCase struct {
	timer     int
	on        bool
	waits     bool
	trap      bool
	timerThen int
	waitsThen bool
}

func timerCases() []timerCase {
	return []timerCase{
		{0, false, false, false, 0, false},
		{0, true, false, false, 0, false},
		{0, false, true, false, 0, true},
		{0, true, true, true, 0, false},
		{1, false, false, false, 0, true},
		{1, true, false, true, 0, false},
		{1, false, true, false, 0, true},
		{1, true, true, true, 0, false},
		{2, false, false, false, 1, false},
		{2, true, false, false, 1, false},
		{2, false, true, false, 1, true},
		{2, true, true, true, 1, false},
		{4095, false, false, false, 4094, false},
		{4095, true, false, false, 4094, false},
		{4095, false, true, false, 4094, true},
		{4095, true, true, true, 4094, false},
	}
}

func timed(b impl.Bare, c timerCase) impl.Bare {
	b.C.Timer, b.C.On, b.C.Waits = c.timer, c.on, c.waits
	return b
}

func checkTimer(t *testing.T, b impl.Bare, c timerCase, want impl.Bare) {
	t.Helper()
	if c.trap {
		want = trapTo(b, impl.CauseTick, 0, b.C.Pc)
	}
	want.C.Timer, want.C.Waits = c.timerThen, c.waitsThen
	checkBare(t, "a step with a timer", impl.BareStep(b), want)
}

func TestTimersByHand(t *testing.T) {
	for _, c := range timerCases() {
		for _, user := range []bool{false, true} {
			b := timed(handBare(impl.Ins{Op: impl.OpPut, A: 3, N: 9}, user), c)
			want := clonedBare(b)
			want.C.Regs[3] = 9
			want.C.Pc = 6
			checkTimer(t, b, c, want)
		}
	}
}

func TestTimersGoOnInTraps(t *testing.T) {
	for _, c := range timerCases() {
		b := timed(handBare(impl.Ins{Op: impl.OpOut}, true), c)
		checkTimer(t, b, c, trapTo(b, impl.CauseMay, 0, 5))
		b = timed(handBare(impl.Ins{Op: impl.OpCall}, true), c)
		checkTimer(t, b, c, trapTo(b, impl.CauseCall, 0, 6))
		// By a table of zeros nothing leads anywhere, but a tick is ahead of that.
		b = timed(handBare(impl.Ins{}, false), c)
		b.C.Root = 2
		copy(b.Mem[16:24], make([]int, 8))
		checkTimer(t, b, c, trapTo(b, impl.CauseFault, 5, 5))
	}
}

func TestTimersAreSetBehindTheTick(t *testing.T) {
	for _, timer := range []int{0, 1, 2, 4095} {
		for _, waits := range []bool{false, true} {
			b := handBare(impl.Ins{Op: impl.OpTimer, A: 1}, false)
			b.C.Timer, b.C.Waits = timer, waits
			want := clonedBare(b)
			want.C.Timer, want.C.Waits, want.C.Pc = 7, waits || timer == 1, 6
			checkBare(t, "Timer 1", impl.BareStep(b), want)
		}
	}
}

func TestTicksThatWaitComeWhenTheyAreLetIn(t *testing.T) {
	b := handBare(impl.Ins{Op: impl.OpMask, N: 1}, false)
	b.C.Waits = true
	b = impl.BareStep(b)
	if !b.C.Waits || !b.C.On || b.C.Pc != 6 {
		t.Fatalf("behind Mask 1: %+v", b.C)
	}
	want := trapTo(b, impl.CauseTick, 0, 6)
	want.C.Waits = false
	checkBare(t, "the next step", impl.BareStep(b), want)
}

func TestTicksThatWaitComeBehindBack(t *testing.T) {
	b := handBare(impl.Ins{Op: impl.OpBack}, false)
	b.C.Timer = 1
	b = impl.BareStep(b)
	if !b.C.Waits || !b.C.User || b.C.Pc != 33 {
		t.Fatalf("behind Back: %+v", b.C)
	}
	b = impl.BareStep(b)
	if b.C.Waits || b.C.Cause != impl.CauseTick || b.C.Saved != 33 || !b.C.SavedUser || b.C.User || b.C.On {
		t.Fatalf("the step behind Back: %+v", b.C)
	}
}

func TestP6WhoHasStoppedStaysSo(t *testing.T) {
	list := machines()
	for _, c := range timerCases() {
		list = append(list, timed(handBare(impl.Ins{Op: impl.OpPut}, true), c))
		list = append(list, timed(handBare(impl.Ins{Op: impl.OpOut}, false), c))
	}
	for _, b := range list {
		b.C.Stopped = true
		checkBare(t, "a step of one that has stopped", impl.BareStep(b), b)
		for _, steps := range []int{0, 1, 2, 299, 300} {
			checkBare(t, "steps of one that has stopped", impl.BareRun(b, steps), b)
		}
	}
}

// tabledBare has a table in page 6: pages 0 to 3 of addresses are in pages 2 to 5, users may read the first two and write the second one, the kernel may write the third one and not the fourth one; page 4 is not there.
func tabledBare(user bool) impl.Bare {
	b := handBare(impl.Ins{}, user)
	b.C.Root = 6
	copy(b.Mem[48:56], []int{8*2 + 5, 8*3 + 7, 8*4 + 3, 8*5 + 1, 8*1 + 6, 0, 0, 0})
	return b
}

// aimed is a machine whose next instruction, at an address in the first two pages, reads or writes at another address.
func aimed(b impl.Bare, i impl.Ins, pc int, addr int) impl.Bare {
	b.C.Pc = pc
	b.Mem[16+pc] = impl.InsWord(i)
	b.C.Regs[0] = addr + 64*5
	return b
}

func TestAddressesBehindTables(t *testing.T) {
	cases := []struct {
		addr   int
		user   bool
		reads  bool
		writes bool
	}{
		{0, true, true, false}, {7, true, true, false}, {0, false, true, false},
		{8, true, true, true}, {15, true, true, true}, {15, false, true, true},
		{16, true, false, false}, {23, true, false, false}, {16, false, true, true}, {23, false, true, true},
		{24, true, false, false}, {24, false, true, false}, {31, false, true, false},
		{32, true, false, false}, {32, false, false, false}, {39, false, false, false},
		{40, false, false, false}, {63, false, false, false}, {63, true, false, false},
	}
	for _, c := range cases {
		read := aimed(tabledBare(c.user), impl.Ins{Op: impl.OpLoad, A: 1, N: 0}, 4, c.addr)
		want := trapTo(read, impl.CauseFault, c.addr, 4)
		if c.reads {
			want = clonedBare(read)
			want.C.Regs[1] = read.Mem[16+c.addr]
			want.C.Pc = 5
		}
		checkBare(t, "Load", impl.BareStep(read), want)
		write := aimed(tabledBare(c.user), impl.Ins{Op: impl.OpStore, A: 1, N: 0}, 4, c.addr)
		want = trapTo(write, impl.CauseFault, c.addr, 4)
		if c.writes {
			want = clonedBare(write)
			want.Mem[16+c.addr] = 7
			want.C.Pc = 5
		}
		checkBare(t, "Store", impl.BareStep(write), want)
	}
}

func TestPlacesBehindTables(t *testing.T) {
	cases := []struct {
		pc   int
		user bool
		goes bool
	}{
		{0, true, true}, {7, true, true}, {15, true, true}, {16, true, false}, {24, true, false}, {32, true, false}, {63, true, false},
		{0, false, true}, {15, false, true}, {16, false, true}, {31, false, true}, {32, false, false}, {63, false, false},
	}
	for _, c := range cases {
		b := tabledBare(c.user)
		b.C.Pc = c.pc
		want := trapTo(b, impl.CauseFault, c.pc, c.pc)
		if c.goes {
			b.Mem[16+c.pc] = impl.InsWord(impl.Ins{Op: impl.OpPut, A: 2, N: 11})
			want = clonedBare(b)
			want.C.Regs[2] = 11
			want.C.Pc = c.pc + 1
		}
		checkBare(t, "Put", impl.BareStep(b), want)
	}
}

func TestFaultsAreAheadOfWhatUsersMayNot(t *testing.T) {
	b := tabledBare(true)
	b.C.Pc = 16
	b.Mem[32] = impl.InsWord(impl.Ins{Op: impl.OpOut})
	checkBare(t, "Out", impl.BareStep(b), trapTo(b, impl.CauseFault, 16, 16))
	b = aimed(tabledBare(true), impl.Ins{Op: impl.OpOut}, 4, 0)
	checkBare(t, "Out", impl.BareStep(b), trapTo(b, impl.CauseMay, 0, 4))
}

// Where traps lead there is nothing, so each step of the kernel is a fault.
func TestFaultsInTheKernel(t *testing.T) {
	b := tabledBare(true)
	b.C.Pc = 16
	first := impl.BareStep(b)
	checkBare(t, "a fault of users", first, trapTo(b, impl.CauseFault, 16, 16))
	second := impl.BareStep(first)
	checkBare(t, "a fault of the kernel", second, trapTo(first, impl.CauseFault, 50, 50))
	if second.C.SavedUser || second.C.Saved != 50 || second.C.Bad != 50 {
		t.Fatalf("the fault of the kernel is told as %+v", second.C)
	}
	checkBare(t, "300 faults of the kernel", impl.BareRun(second, 300), second)
}

// The kernel takes a table away from under its own feet.
func TestTheKernelChoosesATableThatLeadsNowhere(t *testing.T) {
	b := handBare(impl.Ins{Op: impl.OpRoot, A: 1}, false)
	b.C.Regs[1] = 3
	copy(b.Mem[24:32], make([]int, 8))
	b = impl.BareStep(b)
	if b.C.Root != 3 || b.C.Pc != 6 {
		t.Fatalf("behind Root 1: %+v", b.C)
	}
	checkBare(t, "the next step", impl.BareStep(b), trapTo(b, impl.CauseFault, 6, 6))
}

// A user writes the entry by which it writes, and the next address leads elsewhere.
func TestStoresIntoTables(t *testing.T) {
	b := aimed(tabledBare(true), impl.Ins{Op: impl.OpStore, A: 1, N: 0}, 4, 8)
	b.Mem[49] = 8*6 + 7
	b.C.Regs[0] = 9
	b.C.Regs[1] = 8*5 + 7
	b.Mem[16+5] = impl.InsWord(impl.Ins{Op: impl.OpLoad, A: 3, N: 0})
	b = impl.BareRun(b, 2)
	if b.Mem[49] != 47 || b.C.Regs[3] != 1041 || b.C.Pc != 6 {
		t.Fatalf("the table has %d, and %+v", b.Mem[49], b.C)
	}
}

func TestStoresIntoPlacesThatAreToCome(t *testing.T) {
	b := handBare(impl.Ins{Op: impl.OpStore, A: 1, N: 0}, false)
	b.C.Regs[0] = 6
	b.C.Regs[1] = impl.InsWord(impl.Ins{Op: impl.OpPut, A: 3, N: 21})
	b = impl.BareRun(b, 2)
	if b.C.Regs[3] != 21 || b.C.Pc != 7 {
		t.Fatalf("%+v", b.C)
	}
}

// program puts instructions one behind the other from a place on.
func program(mem []int, from int, list ...impl.Ins) {
	for k, i := range list {
		mem[from+k] = impl.InsWord(i)
	}
}

// startedBare has a kernel that sets tables, traps and a timer up, and goes to its users at 24; what it does in traps, from 16 on, is left open.
func startedBare(ticks int) impl.Bare {
	b := impl.Bare{C: impl.Core{Regs: make([]int, 4), Root: -1, Saved: 24, SavedUser: true}, Mem: make([]int, 64)}
	program(b.Mem, 0,
		impl.Ins{Op: impl.OpPut, A: 0, N: 16}, impl.Ins{Op: impl.OpVector, A: 0},
		impl.Ins{Op: impl.OpPut, A: 1, N: 6}, impl.Ins{Op: impl.OpRoot, A: 1},
		impl.Ins{Op: impl.OpPut, A: 2, N: ticks}, impl.Ins{Op: impl.OpTimer, A: 2},
		impl.Ins{Op: impl.OpBack})
	copy(b.Mem[48:56], []int{1, 0, 8*2 + 1, 8*3 + 5, 0, 8*5 + 7, 0, 0})
	return b
}

func TestAProgramWithATimer(t *testing.T) {
	b := startedBare(5)
	program(b.Mem, 16, impl.Ins{Op: impl.OpOut, A: 0}, impl.Ins{Op: impl.OpIn, A: 1, N: 1}, impl.Ins{Op: impl.OpOut, A: 1}, impl.Ins{Op: impl.OpStop})
	program(b.Mem, 24, impl.Ins{Op: impl.OpPut, A: 3, N: 1}, impl.Ins{Op: impl.OpAdd, A: 0, N: 3}, impl.Ins{Op: impl.OpJump, N: 25})
	want := clonedBare(b)
	want.C = impl.Core{Regs: []int{17, 4, 5, 1}, Pc: 19, Root: 6, Vector: 16, Saved: 25, SavedUser: true, Cause: impl.CauseTick}
	want.Out = []int{17, 4}
	checkBare(t, "14 steps", impl.BareRun(b, 14), want)
	want.C.Stopped = true
	checkBare(t, "15 steps", impl.BareRun(b, 15), want)
	checkBare(t, "300 steps", impl.BareRun(b, 300), want)
}

// busyBare is a machine that never stops: its users count, store and call, and its kernel tells causes and sets the timer again.
func busyBare() impl.Bare {
	b := startedBare(7)
	b.In = []int{3, 1, 4}
	program(b.Mem, 16,
		impl.Ins{Op: impl.OpIn, A: 1, N: 1}, impl.Ins{Op: impl.OpOut, A: 1},
		impl.Ins{Op: impl.OpIn, A: 1, N: 0}, impl.Ins{Op: impl.OpOut, A: 1},
		impl.Ins{Op: impl.OpPut, A: 1, N: 9}, impl.Ins{Op: impl.OpTimer, A: 1}, impl.Ins{Op: impl.OpBack})
	program(b.Mem, 24,
		impl.Ins{Op: impl.OpPut, A: 3, N: 41}, impl.Ins{Op: impl.OpAdd, A: 0, N: 3},
		impl.Ins{Op: impl.OpStore, A: 0, N: 3}, impl.Ins{Op: impl.OpCall},
		impl.Ins{Op: impl.OpLoad, A: 2, N: 3}, impl.Ins{Op: impl.OpSub, A: 3, N: 2}, impl.Ins{Op: impl.OpJump, N: 24})
	return b
}

func TestAProgramThatNeverStops(t *testing.T) {
	b := impl.BareRun(busyBare(), 300)
	if b.C.Stopped || len(b.Out) != 30 || len(b.In) != 0 {
		t.Fatalf("%+v", b)
	}
	// The timer is set to 7 in step 6, and users call in step 11: the tick of step 13 waits till the kernel goes back.
	if !slices.Equal(b.Out[:6], []int{impl.CauseCall, 3, impl.CauseTick, 1, impl.CauseCall, 4}) {
		t.Fatalf("%v went out", b.Out)
	}
	called := impl.BareRun(busyBare(), 11)
	if called.C.Cause != impl.CauseCall || called.C.Saved != 28 || called.Mem[41] != 57 {
		t.Fatalf("%+v", called)
	}
}

// wantStep does a step in place, where the program makes new lists.
func wantStep(b *impl.Bare) {
	if b.C.Stopped {
		return
	}
	if b.C.Timer > 0 {
		b.C.Timer--
		b.C.Waits = b.C.Waits || b.C.Timer == 0
	}
	if b.C.On && b.C.Waits {
		b.C.Waits = false
		*b = trapTo(*b, impl.CauseTick, 0, b.C.Pc)
		return
	}
	at := wantWalk(b.Mem, b.C.Root, b.C.Pc, access{user: b.C.User})
	if at < 0 {
		*b = trapTo(*b, impl.CauseFault, b.C.Pc, b.C.Pc)
		return
	}
	wantDo(b, b.Mem[at]>>8, b.Mem[at]>>6&3, b.Mem[at]&63)
}

func wantDo(b *impl.Bare, op int, a int, n int) {
	next := (b.C.Pc + 1) & 63
	addr := b.C.Regs[n&3] & 63
	at := 0
	if op == 3 || op == 4 {
		at = wantWalk(b.Mem, b.C.Root, addr, access{user: b.C.User, write: op == 4})
	}
	switch {
	case b.C.User && operations()[op].kernel:
		*b = trapTo(*b, impl.CauseMay, 0, b.C.Pc)
		return
	case at < 0:
		*b = trapTo(*b, impl.CauseFault, addr, b.C.Pc)
		return
	case op == 7:
		*b = trapTo(*b, impl.CauseCall, 0, next)
		return
	}
	wantDone(b, op, a, n, at, next)
}

func wantDone(b *impl.Bare, op int, a int, n int, at int, next int) {
	c := &b.C
	other, pc := c.Regs[n&3], c.Pc
	c.Pc = next
	switch op {
	case 0:
		c.Stopped, c.Pc = true, pc
	case 1:
		c.Regs[a] = n
	case 2:
		c.Regs[a] = (c.Regs[a] + other) & 4095
	case 3:
		c.Regs[a] = b.Mem[at]
	case 4:
		b.Mem[at] = c.Regs[a]
	case 5:
		c.Pc = n
	case 6:
		if c.Regs[a] > 0 {
			c.Pc = n
		}
	case 8:
		c.Root = []int{0, 1, 2, 3, 4, 5, 6, 7, -1, -1, -1, -1, -1, -1, -1, -1}[c.Regs[a]&15]
	case 9:
		c.Vector = c.Regs[a] & 63
	case 10:
		c.Timer = c.Regs[a]
	case 11:
		c.Pc, c.User, c.On = c.Saved, c.SavedUser, true
	case 12:
		c.On = n&1 != 0
	case 13:
		b.Out = append(b.Out, c.Regs[a])
		b.Out = b.Out[:min(len(b.Out), 30)]
	case 14:
		first := append(slices.Clone(b.In), 0)[0]
		c.Regs[a] = []int{first, c.Cause, c.Bad, c.Saved}[n&3]
		if n&3 == 0 && len(b.In) > 0 {
			b.In = b.In[1:]
		}
	case 15:
		c.Regs[a] = (c.Regs[a] - other) & 4095
	}
}

// mixedBare has words and numbers that follow from the seed alone.
func mixedBare(seed int) impl.Bare {
	dice := slices.Concat(mixedMem(seed*7+1), mixedMem(seed*11+5))
	b := impl.Bare{Mem: mixedMem(seed), In: dice[20 : 20+dice[0]%31], Out: dice[60 : 60+dice[1]%31]}
	b.C = impl.Core{
		Regs: slices.Clone(dice[2:6]), Pc: dice[6] % 64, Root: dice[7]%9 - 1, Vector: dice[8] % 64, Saved: dice[9] % 64,
		SavedUser: dice[10]%4 != 0, Cause: dice[11] % 5, Bad: dice[12] % 64, Timer: dice[13] % 12,
		Waits: dice[14]%6 == 0, User: dice[15]%3 != 0, On: dice[16]%2 == 0,
	}
	return clonedBare(b)
}

// mixedMachines has machines of all kinds, most of which go on for a while.
func mixedMachines() []impl.Bare {
	list := []impl.Bare{busyBare(), startedBare(1), startedBare(5), handBare(impl.Ins{Op: impl.OpCall}, true), tabledBare(true)}
	for seed := 1; seed <= 600; seed++ {
		list = append(list, mixedBare(seed))
	}
	return list
}

// eachWordBare has machines with each word as the next one to be done, for users and the kernel, with a table and without one; the table, in page 2, leads to pages that users and the kernel may read, or write, and to some that they may not.
func eachWordBare() []impl.Bare {
	list := []impl.Bare{}
	for w := 0; w <= 4095; w++ {
		for k, regs := range [][]int{{3, 12, 20, 28}, {33, 41, 4090, 63}} {
			b := handBare(impl.Ins{}, w&1 != k)
			copy(b.Mem[16:24], []int{7, 8*1 + 5, 8*2 + 3, 8*3 + 1, 0, 8*6 + 7, 8*7 + 7, 8*4 + 5})
			b.Mem[5] = w
			copy(b.C.Regs, regs)
			b.C.Root = 2
			bare, other, both := clonedBare(b), clonedBare(b), clonedBare(b)
			bare.C.Root = -1
			other.C.User = !b.C.User
			both.C.Root, both.C.User = -1, !b.C.User
			list = append(list, b, bare, other, both)
		}
	}
	return list
}

func TestBareStepOfEachWord(t *testing.T) {
	for _, b := range eachWordBare() {
		got := impl.BareStep(b)
		wantStep(&b)
		checkBare(t, "a step", got, b)
	}
}

func TestBareStepOfMixedMachines(t *testing.T) {
	for _, b := range mixedMachines() {
		want := clonedBare(b)
		for steps := 1; steps <= 300; steps++ {
			b = impl.BareStep(b)
			wantStep(&want)
			checkBare(t, "a step", b, want)
		}
	}
}

func TestBareRunOfMixedMachines(t *testing.T) {
	for _, b := range mixedMachines() {
		want := clonedBare(b)
		for steps := 0; steps <= 300; steps++ {
			if steps%60 < 2 {
				checkBare(t, "a run", impl.BareRun(b, steps), want)
			}
			wantStep(&want)
		}
	}
}

// placesForUsers has the places of memory to which addresses lead for users, to be written.
func placesForUsers(b impl.Bare) []int {
	places := []int{}
	for addr := 0; addr < 64; addr++ {
		if at := impl.Walk(b.Mem, b.C.Root, addr, true, true); at >= 0 {
			places = append(places, at)
		}
	}
	return places
}

func turnedPlaces(a []int, b []int) []int {
	places := []int{}
	for at := range a {
		if a[at] != b[at] {
			places = append(places, at)
		}
	}
	return places
}

// checkUsers tells how many words of memory the step of a user turned.
func checkUsers(t *testing.T, b impl.Bare, then impl.Bare) int {
	t.Helper()
	if then.C.Root != b.C.Root || then.C.Vector != b.C.Vector || then.C.Timer != max(b.C.Timer-1, 0) {
		t.Fatalf("users turned a table, a vector or a timer: from %+v to %+v", b.C, then.C)
	}
	if !slices.Equal(b.In, then.In) || !slices.Equal(b.Out, then.Out) || then.C.Stopped {
		t.Fatalf("users let words in or out, or stopped it: from %+v to %+v", b, then)
	}
	turned := turnedPlaces(b.Mem, then.Mem)
	if len(turned) > 1 || len(turned) == 1 && !slices.Contains(placesForUsers(b), turned[0]) {
		t.Fatalf("users turned words at %v, from %+v", turned, b)
	}
	return len(turned)
}

func TestP5UsersChangeOnlyWhatTheyMay(t *testing.T) {
	list := eachWordBare()
	for _, b := range mixedMachines() {
		for steps := 0; steps < 40; steps++ {
			list = append(list, b)
			b = impl.BareStep(b)
		}
	}
	stores := 0
	for _, b := range list {
		if b.C.User && !b.C.Stopped {
			stores += checkUsers(t, b, impl.BareStep(b))
		}
	}
	if stores < 100 {
		t.Errorf("users turned only %d words in all", stores)
	}
}

func TestP5AStepLeadsToAMachine(t *testing.T) {
	for _, b := range slices.Concat(machines(), eachWordBare(), mixedMachines()) {
		if then := impl.BareStep(b); !impl.BareOk(then) {
			t.Fatalf("a step of %+v is %+v", b, then)
		}
	}
}

// Users get into the kernel only by traps, where it says.
func TestP5UsersGetIntoTheKernelOnlyAtItsVector(t *testing.T) {
	for _, b := range slices.Concat(eachWordBare(), mixedMachines()) {
		then := impl.BareStep(b)
		if b.C.Stopped || !b.C.User || then.C.User {
			continue
		}
		if then.C.Pc != b.C.Vector || then.C.On || !then.C.SavedUser || then.C.Cause == impl.CauseNone || !slices.Equal(then.Mem, b.Mem) {
			t.Fatalf("from %+v users got into the kernel at %+v", b.C, then.C)
		}
	}
}

func TestP6StepsInTwoPartsAreAllSteps(t *testing.T) {
	for _, b := range mixedMachines() {
		for _, steps := range []int{0, 1, 2, 7, 40, 300} {
			all := impl.BareRun(b, steps)
			for _, first := range []int{0, 1, 3, steps / 2, steps - 1, steps} {
				if !isIn(first, steps) {
					continue
				}
				checkBare(t, "a run in two parts", impl.BareRun(impl.BareRun(b, first), steps-first), all)
			}
		}
	}
}

func TestP6NoStepsAndOneStep(t *testing.T) {
	for _, b := range slices.Concat(machines(), mixedMachines()) {
		checkBare(t, "no steps", impl.BareRun(b, 0), b)
		checkBare(t, "one step", impl.BareRun(b, 1), impl.BareStep(b))
	}
}

// spare has a row with room behind it, in which other words stand.
func spare(row []int) []int {
	return append(slices.Clone(row), slices.Repeat([]int{1234}, 40)...)[:len(row)]
}

func spareBare(b impl.Bare) impl.Bare {
	b.C.Regs, b.Mem, b.In, b.Out = spare(b.C.Regs), spare(b.Mem), spare(b.In), spare(b.Out)
	return b
}

func rowsOf(b impl.Bare) [][]int {
	return [][]int{b.C.Regs, b.Mem, b.In, b.Out}
}

// wholeRows has all rows of a machine as far as their memory goes.
func wholeRows(b impl.Bare) [][]int {
	rows := rowsOf(b)
	for k, row := range rows {
		rows[k] = row[:cap(row)]
	}
	return rows
}

func cloneRows(rows [][]int) [][]int {
	own := [][]int{}
	for _, row := range rows {
		own = append(own, slices.Clone(row))
	}
	return own
}

func sameRows(a [][]int, b [][]int) bool {
	return slices.EqualFunc(a, b, slices.Equal[[]int])
}

// checkApart writes over all rows of an answer, one by one, and looks whether anything else turns.
func checkApart(t *testing.T, given impl.Bare, answer impl.Bare) {
	t.Helper()
	before := cloneRows(wholeRows(given))
	for k, row := range wholeRows(answer) {
		others := cloneRows(rowsOf(answer))
		for at := range row {
			row[at] = 4321
		}
		for j, other := range rowsOf(answer) {
			if j != k && !slices.Equal(other, others[j]) {
				t.Fatalf("the rows %d and %d of an answer share memory", k, j)
			}
		}
	}
	if !sameRows(wholeRows(given), before) {
		t.Fatal("an answer shares memory with what was given")
	}
}

func TestStepsAreNewMemory(t *testing.T) {
	list := mixedMachines()
	for _, c := range append(openCases(), kernelCases()...) {
		list = append(list, handBare(c.i, false), handBare(c.i, true))
	}
	for _, b := range list {
		for _, stopped := range []bool{false, true} {
			given := spareBare(b)
			given.C.Stopped = stopped
			before := cloneRows(wholeRows(given))
			step, none, some := impl.BareStep(given), impl.BareRun(given, 0), impl.BareRun(given, 20)
			if !sameRows(wholeRows(given), before) {
				t.Fatal("a step writes into what it was given")
			}
			checkApart(t, given, step)
			checkApart(t, given, none)
			checkApart(t, given, some)
		}
	}
}

// The rows that are given may share memory among themselves; those of an answer do not.
func TestStepsOfRowsThatShareMemory(t *testing.T) {
	for _, c := range append(openCases(), kernelCases()...) {
		b := handBare(c.i, false)
		b.C.Regs, b.In, b.Out = b.Mem[20:24], b.Mem[20:30], b.Mem[18:25]
		want := clonedBare(b)
		wantStep(&want)
		step := impl.BareStep(b)
		checkBare(t, c.name, step, want)
		checkApart(t, b, step)
		checkApart(t, b, impl.BareRun(b, 0))
	}
}
