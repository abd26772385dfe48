package tests

import (
	"math"
	"slices"
	"testing"

	"loop.example/guesthouse/impl"
)

func TestConstantsOfTables(t *testing.T) {
	if impl.PageWords != 8 || impl.GuestPages != 8 {
		t.Errorf("PageWords is %d, GuestPages is %d", impl.PageWords, impl.GuestPages)
	}
}

// mixedMem has words that follow from the seed alone, in no order.
func mixedMem(seed int) []int {
	mem := make([]int, 64)
	for at := range mem {
		seed = (seed*1103515245 + 12345) % (1 << 31)
		mem[at] = seed / 65536 % 4096
	}
	return mem
}

func filledMem(w int) []int {
	return slices.Repeat([]int{w}, 64)
}

func with(mem []int, at int, w int) []int {
	turned := slices.Clone(mem)
	turned[at] = w
	return turned
}

// memories has memories that are ok: of one word alone, at both ends of words, and of mixed ones.
func memories() [][]int {
	list := [][]int{filledMem(0), filledMem(63), filledMem(4095)}
	for seed := 1; seed <= 20; seed++ {
		list = append(list, mixedMem(seed))
	}
	return list
}

// noWords has numbers next to the words, and far from them, that are none.
func noWords() []int {
	return []int{math.MinInt, -4096, -1, 4096, 8191, 1 << 32, math.MaxInt}
}

// brokenMemories has memories that are too short, too long, or hold what is no word at one place.
func brokenMemories() [][]int {
	list := [][]int{nil}
	for many := 0; many <= 130; many++ {
		if many != 64 {
			list = append(list, make([]int, many))
		}
	}
	for at := 0; at < 64; at++ {
		for _, n := range noWords() {
			list = append(list, with(filledMem(63), at, n))
		}
	}
	return list
}

func TestMemOkOfMemories(t *testing.T) {
	for _, mem := range memories() {
		if !impl.MemOk(mem) {
			t.Fatalf("MemOk(%v) is false", mem)
		}
	}
}

func TestMemOkOfOthers(t *testing.T) {
	for _, mem := range brokenMemories() {
		if impl.MemOk(mem) {
			t.Fatalf("MemOk(%v), of length %d, is true", mem, len(mem))
		}
	}
}

func TestMemOkLooksAtNoSpareCapacity(t *testing.T) {
	long := make([]int, 72)
	if impl.MemOk(long[:63]) || !impl.MemOk(long[:64]) || impl.MemOk(long[:65]) {
		t.Error("what lies behind the end of a memory matters")
	}
}

func TestP50WordsCanBeTurned(t *testing.T) {
	for _, mem := range [][]int{filledMem(0), filledMem(4095), mixedMem(1)} {
		turned := slices.Clone(mem)
		for at := range mem {
			for w := 0; w <= 4095; w++ {
				turned[at] = w
				if !impl.MemOk(turned) {
					t.Fatalf("it does not hold any more with %d at %d", w, at)
				}
			}
			turned[at] = mem[at]
		}
	}
}

// entries has all entries with pages that are ok, and others with pages outside their range.
func entries() []impl.Entry {
	list := []impl.Entry{}
	for _, page := range fieldNumbers(7) {
		for _, there := range []bool{false, true} {
			for _, write := range []bool{false, true} {
				for _, user := range []bool{false, true} {
					list = append(list, impl.Entry{There: there, Write: write, User: user, Page: page})
				}
			}
		}
	}
	return list
}

func TestEntryWordAndFromByHand(t *testing.T) {
	cases := []struct {
		e impl.Entry
		w int
	}{
		{impl.Entry{}, 0},
		{impl.Entry{There: true}, 1},
		{impl.Entry{Write: true}, 2},
		{impl.Entry{There: true, Write: true}, 3},
		{impl.Entry{User: true}, 4},
		{impl.Entry{There: true, Write: true, User: true}, 7},
		{impl.Entry{Page: 1}, 8},
		{impl.Entry{There: true, User: true, Page: 3}, 29},
		{impl.Entry{Page: 7}, 56},
		{impl.Entry{There: true, Write: true, User: true, Page: 7}, 63},
	}
	for _, c := range cases {
		if got := impl.EntryWord(c.e); got != c.w {
			t.Errorf("EntryWord(%+v) is %d, not %d", c.e, got, c.w)
		}
		if got := impl.EntryFrom(c.w); got != c.e {
			t.Errorf("EntryFrom(%d) is %+v, not %+v", c.w, got, c.e)
		}
	}
}

func TestEntryFromAboveTheWordsOfEntries(t *testing.T) {
	cases := []struct {
		w    int
		want impl.Entry
	}{
		{64, impl.Entry{}},
		{65, impl.Entry{There: true}},
		{64 + 29, impl.Entry{There: true, User: true, Page: 3}},
		{2048 + 56, impl.Entry{Page: 7}},
		{4032, impl.Entry{}},
		{4088, impl.Entry{Page: 7}},
		{4095, impl.Entry{There: true, Write: true, User: true, Page: 7}},
	}
	for _, c := range cases {
		if got := impl.EntryFrom(c.w); got != c.want {
			t.Errorf("EntryFrom(%d) is %+v, not %+v", c.w, got, c.want)
		}
	}
}

func TestP3EntriesCanBeReadBack(t *testing.T) {
	for _, e := range entries() {
		if !isIn(e.Page, 7) {
			continue
		}
		w := impl.EntryWord(e)
		if !isIn(w, 63) {
			t.Fatalf("EntryWord(%+v) is %d, which is not in 0..63", e, w)
		}
		if back := impl.EntryFrom(w); back != e {
			t.Fatalf("%+v is read back from %d as %+v", e, w, back)
		}
	}
}

func TestP3OthersAreNoWords(t *testing.T) {
	for _, e := range entries() {
		if isIn(e.Page, 7) {
			continue
		}
		if w := impl.EntryWord(e); w != -1 {
			t.Fatalf("EntryWord(%+v) is %d", e, w)
		}
	}
}

func TestP51EachWordIsAnEntry(t *testing.T) {
	for w := 0; w <= 4095; w++ {
		e := impl.EntryFrom(w)
		if got := impl.EntryWord(e); got != w%64 {
			t.Fatalf("the word %d is the entry %+v, and comes back as %d", w, e, got)
		}
	}
}

func TestP51OthersAreTheZeroValue(t *testing.T) {
	for _, n := range wordNumbers() {
		if isIn(n, 4095) {
			continue
		}
		if e := impl.EntryFrom(n); e != (impl.Entry{}) {
			t.Fatalf("EntryFrom(%d) is %+v", n, e)
		}
	}
}

// access is who is at an address, and to what end.
type access struct {
	user  bool
	write bool
}

func accesses() []access {
	return []access{{false, false}, {false, true}, {true, false}, {true, true}}
}

// wordLets takes an entry's word apart by its bits, where the program divides.
func wordLets(w int, a access) bool {
	there, write, user := w&1 != 0, w&2 != 0, w&4 != 0
	if !there || a.write && !write {
		return false
	}
	return user || !a.user
}

func wantWalk(mem []int, root int, addr int, a access) int {
	if root == -1 {
		return addr
	}
	w := mem[root<<3|addr>>3]
	if !wordLets(w, a) {
		return -1
	}
	return w&0x38 | addr&7
}

func checkWalk(t *testing.T, mem []int, root int, addr int, a access, want int) {
	t.Helper()
	if got := impl.Walk(mem, root, addr, a.user, a.write); got != want {
		t.Fatalf("Walk of %d by root %d, %+v, is %d, not %d, in %v", addr, root, a, got, want, mem)
	}
}

func TestWalkWithoutTables(t *testing.T) {
	for _, mem := range memories() {
		for addr := 0; addr < 64; addr++ {
			for _, a := range accesses() {
				checkWalk(t, mem, -1, addr, a, addr)
			}
		}
	}
}

func TestWalkByHand(t *testing.T) {
	mem := make([]int, 64)
	mem[16] = impl.EntryWord(impl.Entry{There: true, User: true, Page: 7})
	mem[17] = impl.EntryWord(impl.Entry{There: true, Write: true, Page: 0})
	mem[18] = impl.EntryWord(impl.Entry{Write: true, User: true, Page: 3})
	mem[23] = impl.EntryWord(impl.Entry{There: true, Write: true, User: true, Page: 5})
	cases := []struct {
		addr  int
		user  bool
		write bool
		want  int
	}{
		{0, true, false, 56}, {7, true, false, 63}, {3, false, false, 59},
		{0, true, true, -1}, {7, false, true, -1},
		{8, false, false, 0}, {15, false, true, 7}, {8, true, false, -1}, {15, true, true, -1},
		{16, false, false, -1}, {23, true, true, -1},
		{24, false, false, -1}, {55, true, false, -1},
		{56, true, true, 40}, {63, true, true, 47}, {63, false, false, 47},
	}
	for _, c := range cases {
		checkWalk(t, mem, 2, c.addr, access{c.user, c.write}, c.want)
	}
}

// Each row is the lowest three bits of an entry; its columns are the kernel that reads and writes, and users that do.
func TestWalkOfUsersAndTheKernel(t *testing.T) {
	rows := [][]bool{
		{false, false, false, false},
		{true, false, false, false},
		{false, false, false, false},
		{true, true, false, false},
		{false, false, false, false},
		{true, false, true, false},
		{false, false, false, false},
		{true, true, true, true},
	}
	for bits, row := range rows {
		mem := with(make([]int, 64), 32, 8*5+bits)
		for column, a := range accesses() {
			want := -1
			if row[column] {
				want = 43
			}
			checkWalk(t, mem, 4, 3, a, want)
		}
	}
}

func TestWalkByEachWordAsAnEntry(t *testing.T) {
	for w := 0; w <= 4095; w++ {
		mem := with(filledMem(0), 63, w)
		for _, addr := range []int{55, 56, 60, 63} {
			for _, a := range accesses() {
				checkWalk(t, mem, 7, addr, a, wantWalk(mem, 7, addr, a))
			}
		}
	}
}

func TestWalkOfMixedMemories(t *testing.T) {
	for _, mem := range memories() {
		for root := -1; root <= 7; root++ {
			for addr := 0; addr < 64; addr++ {
				for _, a := range accesses() {
					checkWalk(t, mem, root, addr, a, wantWalk(mem, root, addr, a))
				}
			}
		}
	}
}

// Of a table only the first, or the last, entry is there; what lies just outside of the table and of the entry's page must not matter.
func TestWalkAtTheEndsOfPages(t *testing.T) {
	all := access{true, true}
	for root := 0; root <= 7; root++ {
		first := with(make([]int, 64), root*8, 7+8*7)
		checkWalk(t, first, root, 0, all, 56)
		checkWalk(t, first, root, 7, all, 63)
		checkWalk(t, first, root, 8, all, -1)
		last := with(make([]int, 64), root*8+7, 7)
		checkWalk(t, last, root, 55, all, -1)
		checkWalk(t, last, root, 56, all, 0)
		checkWalk(t, last, root, 63, all, 7)
		around := filledMem(63)
		for at := root * 8; at < root*8+8; at++ {
			around[at] = 62
		}
		for addr := 0; addr < 64; addr++ {
			checkWalk(t, around, root, addr, access{}, -1)
		}
	}
}

func TestWalkOfTablesThatLeadToThemselves(t *testing.T) {
	for root := 0; root <= 7; root++ {
		for entry := 0; entry < 8; entry++ {
			mem := with(make([]int, 64), root*8+entry, 8*root+3)
			for word := 0; word < 8; word++ {
				checkWalk(t, mem, root, entry*8+word, access{write: true}, root*8+word)
				checkWalk(t, mem, root, entry*8+word, access{user: true}, -1)
			}
		}
	}
}

// A table is memory: the entry that leads to its own page is put elsewhere through itself.
func TestWalkBehindATableThatTurnedItself(t *testing.T) {
	mem := with(make([]int, 64), 24+2, 8*3+3)
	at := impl.Walk(mem, 3, 2*8+2, false, true)
	if at != 26 {
		t.Fatalf("the entry is at 26, not at %d", at)
	}
	mem[at] = 8*6 + 1
	checkWalk(t, mem, 3, 2*8+2, access{}, 50)
	checkWalk(t, mem, 3, 2*8+2, access{write: true}, -1)
}

func TestWalkOfEntriesThatAreNotThere(t *testing.T) {
	for bits := 0; bits <= 6; bits += 2 {
		for page := 0; page <= 7; page++ {
			mem := filledMem(8*page + bits)
			for addr := 0; addr < 64; addr++ {
				for _, a := range accesses() {
					checkWalk(t, mem, 5, addr, a, -1)
				}
			}
		}
	}
}

// All addresses lead to one page, the first or the last one, so that one just outside would lead next to it.
func TestWalkOutsideOfAddressesAndRoots(t *testing.T) {
	for _, open := range [][]int{filledMem(7), filledMem(63)} {
		for _, root := range fieldNumbers(7) {
			for _, addr := range fieldNumbers(63) {
				if (root == -1 || isIn(root, 7)) && isIn(addr, 63) {
					continue
				}
				for _, a := range accesses() {
					checkWalk(t, open, root, addr, a, -1)
				}
			}
		}
	}
}

// A word that is none counts wherever it stands, also where the way does not lead.
func TestWalkInOtherMemories(t *testing.T) {
	for _, mem := range brokenMemories() {
		for _, root := range []int{-1, 0, 7} {
			for _, addr := range []int{0, 8, 63} {
				for _, a := range accesses() {
					checkWalk(t, mem, root, addr, a, -1)
				}
			}
		}
	}
}

func TestTablesAreNotWrittenTo(t *testing.T) {
	mem := mixedMem(7)
	before := slices.Clone(mem)
	for addr := 0; addr < 64; addr++ {
		impl.MemOk(mem)
		impl.Walk(mem, 2, addr, false, true)
	}
	if !slices.Equal(mem, before) {
		t.Error("the memory was written to")
	}
}

func TestP4WhoMayWriteMayReadAndTheKernelMayWhatUsersMay(t *testing.T) {
	for _, mem := range memories() {
		for root := -1; root <= 7; root++ {
			for addr := 0; addr < 64; addr++ {
				for _, a := range accesses() {
					at := impl.Walk(mem, root, addr, a.user, a.write)
					if at == -1 {
						continue
					}
					checkWalk(t, mem, root, addr, access{a.user, false}, at)
					checkWalk(t, mem, root, addr, access{false, a.write}, at)
					checkWalk(t, mem, root, addr, access{}, at)
				}
			}
		}
	}
}

func TestP4AddressesOfOnePageLeadToOnePage(t *testing.T) {
	for _, mem := range memories() {
		for root := -1; root <= 7; root++ {
			for first := 0; first < 64; first += 8 {
				for _, a := range accesses() {
					start := impl.Walk(mem, root, first, a.user, a.write)
					if start != -1 && start%8 != 0 {
						t.Fatalf("the first word of a page leads to %d", start)
					}
					for word := 1; word < 8; word++ {
						want := -1
						if start != -1 {
							want = start + word
						}
						checkWalk(t, mem, root, first+word, a, want)
					}
				}
			}
		}
	}
}
