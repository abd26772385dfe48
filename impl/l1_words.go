package impl

// WordMost is the greatest word.
const WordMost = 4095

// What an instruction does.
const (
	OpStop   = 0
	OpPut    = 1
	OpAdd    = 2
	OpLoad   = 3
	OpStore  = 4
	OpJump   = 5
	OpBranch = 6
	OpCall   = 7
	OpRoot   = 8
	OpVector = 9
	OpTimer  = 10
	OpBack   = 11
	OpMask   = 12
	OpOut    = 13
	OpIn     = 14
	OpSub    = 15
)

// Of the twelve bits of a word the lowest six are the number of its instruction, the next two its register, and the others what it does.
const (
	insNumbers   = 64
	insRegisters = 4
	insOpUnit    = insRegisters * insNumbers
)

// Ins is an instruction: what it does, a register, and a number.
type Ins struct {
	Op int
	A  int
	N  int
}

// WordOk reports whether a number is a word: in 0..WordMost.
func WordOk(n int) bool {
	return 0 <= n && n <= WordMost
}

// InsOk reports whether an instruction has Op in 0..15, A in 0..3 and N in 0..63.
func InsOk(i Ins) bool {
	op := OpStop <= i.Op && i.Op <= OpSub
	register := 0 <= i.A && i.A < insRegisters
	number := 0 <= i.N && i.N < insNumbers
	return op && register && number
}

// InsWord returns an instruction (InsOk) as a word: 256 times Op, 64 times A, and N, added up; -1 for others.
func InsWord(i Ins) int {
	if !InsOk(i) {
		return -1
	}
	return insOpUnit*i.Op + insNumbers*i.A + i.N
}

// InsFrom returns the instruction of a word (InsWord); the zero value for others.
func InsFrom(w int) Ins {
	if !WordOk(w) {
		return Ins{}
	}
	return Ins{
		Op: w / insOpUnit,
		A:  w / insNumbers % insRegisters,
		N:  w % insNumbers,
	}
}

// InsKernel reports whether an instruction (InsOk) may be done by the kernel alone: OpStop, OpRoot, OpVector, OpTimer, OpBack, OpMask, OpOut and OpIn.
func InsKernel(i Ins) bool {
	if !InsOk(i) {
		return false
	}
	switch i.Op {
	case OpStop, OpRoot, OpVector, OpTimer, OpBack, OpMask, OpOut, OpIn:
		return true
	}
	return false
}
