package tests

import (
	"slices"
	"testing"

	"loop.example/guesthouse/impl"
)

func TestConstantsOfExits(t *testing.T) {
	exits := []int{impl.ExitNone, impl.ExitMay, impl.ExitFill, impl.ExitCopy}
	if !slices.Equal(exits, []int{0, 1, 2, 3}) {
		t.Errorf("the exits are %v", exits)
	}
}

// exitHost has guest 1, the next instruction of which, at 4, reads or writes at an address by register 0. Page 1 has no frame, page 2 is in that of a page of guest 0, page 3 is alone and may not be written, and pages 5 and 6 are in one frame. The table in page 7 leads to pages with the same numbers, but for page 4, which may be read and leads to page 1, page 5, which leads to page 6, and page 6, which is not there; page 3 and the table itself are for the kernel.
func exitHost(i impl.Ins, addr int, root int, user bool) impl.Host {
	h := emptyHost()
	h.Guests[0] = plainGuest()
	h.Guests[0].Pages[6] = impl.Slot{Frame: 5}
	h.Guests[1] = guestAs(plainBare(), []impl.Slot{
		{Frame: 3, Write: true}, {Frame: -1}, {Frame: 5}, {Frame: 7, Dirty: true},
		{Frame: 9, Write: true, Dirty: true}, {Frame: 11}, {Frame: 11}, {Frame: 13, Write: true},
	})
	c := &h.Guests[1].C
	c.Regs = []int{addr + 64*5, 66, 4095, 0}
	c.Pc, c.Root, c.User = 4, root, user
	h.Words[3*8+4] = impl.InsWord(i)
	copy(h.Words[13*8:14*8], []int{8*0 + 7, 8*1 + 7, 8*2 + 7, 8*3 + 3, 8*1 + 5, 8*6 + 7, 8*1 + 6, 8*7 + 3})
	return h
}

func checkExit(t *testing.T, h impl.Host, g int, want impl.Exit) {
	t.Helper()
	if got := impl.GuestExit(h, g); got != want {
		t.Fatalf("the guest %d leads out by %+v, not by %+v, in %+v", g, got, want, h)
	}
}

func fillOf(page int) impl.Exit {
	return impl.Exit{Why: impl.ExitFill, Page: page}
}

func copyOf(page int) impl.Exit {
	return impl.Exit{Why: impl.ExitCopy, Page: page}
}

// Each row has the kernel that reads and writes, and users that do, at one page of addresses.
func TestGuestExitOfWordsByHand(t *testing.T) {
	none := impl.Exit{}
	open := [][]impl.Exit{
		{none, none, none, none},
		{fillOf(1), fillOf(1), fillOf(1), fillOf(1)},
		{none, copyOf(2), none, copyOf(2)},
		{none, copyOf(3), none, copyOf(3)},
		{none, none, none, none},
		{none, copyOf(5), none, copyOf(5)},
		{none, copyOf(6), none, copyOf(6)},
		{none, none, none, none},
	}
	tabled := [][]impl.Exit{
		{none, none, none, none},
		{fillOf(1), fillOf(1), fillOf(1), fillOf(1)},
		{none, copyOf(2), none, copyOf(2)},
		{none, copyOf(3), none, none},
		{fillOf(1), none, fillOf(1), none},
		{none, copyOf(6), none, copyOf(6)},
		{none, none, none, none},
		{none, none, none, none},
	}
	for number := 0; number < 8; number++ {
		for k, a := range accesses() {
			i := impl.Ins{Op: impl.OpLoad, A: 2, N: 4}
			if a.write {
				i.Op = impl.OpStore
			}
			for _, word := range []int{0, 3, 7} {
				checkExit(t, exitHost(i, number*8+word, -1, a.user), 1, open[number][k])
				checkExit(t, exitHost(i, number*8+word, 7, a.user), 1, tabled[number][k])
			}
		}
	}
}

// Only OpLoad and OpStore look at the word at a register; here it would be one that leads out.
func TestGuestExitOfAllInstructionsByHand(t *testing.T) {
	for w := 0; w <= 4095; w++ {
		i := impl.Ins{Op: w >> 8, A: w >> 6 & 3, N: w & 63}
		for k, root := range []int{-1, 7, -1, 7} {
			user := k > 1
			want := impl.Exit{}
			switch {
			case operations()[i.Op].kernel && !user:
				want = impl.Exit{Why: impl.ExitMay, What: i}
			case i.Op == impl.OpLoad && i.N%4 == 0:
				want = fillOf(1)
			case i.Op == impl.OpStore && i.N%4 == 0:
				want = fillOf(1)
			}
			checkExit(t, exitHost(i, 9, root, user), 1, want)
		}
	}
}

// Page 2 may not be written, and page 1 has no frame; a place that leads nowhere is a fault, and is not looked at.
func TestGuestExitOfPlacesByHand(t *testing.T) {
	cases := []struct {
		pc     int
		root   int
		kernel impl.Exit
		users  impl.Exit
	}{
		{8, -1, fillOf(1), fillOf(1)},
		{15, -1, fillOf(1), fillOf(1)},
		{16, -1, impl.Exit{Why: impl.ExitMay, What: impl.Ins{Op: impl.OpOut, A: 1}}, impl.Exit{}},
		{8, 7, fillOf(1), fillOf(1)},
		{16, 7, impl.Exit{Why: impl.ExitMay, What: impl.Ins{Op: impl.OpOut, A: 1}}, impl.Exit{}},
		{24, 7, impl.Exit{Why: impl.ExitMay, What: impl.Ins{Op: impl.OpIn, N: 3}}, impl.Exit{}},
		{32, 7, fillOf(1), fillOf(1)},
		{39, 7, fillOf(1), fillOf(1)},
		{40, 7, impl.Exit{Why: impl.ExitMay, What: impl.Ins{Op: impl.OpMask, A: 3, N: 9}}, impl.Exit{}},
		{48, 7, impl.Exit{}, impl.Exit{}},
		{55, 7, impl.Exit{}, impl.Exit{}},
	}
	for _, c := range cases {
		for k, want := range []impl.Exit{c.kernel, c.users} {
			h := exitHost(impl.Ins{}, 0, c.root, k == 1)
			h.Guests[1].C.Pc = c.pc
			h.Words[40] = impl.InsWord(impl.Ins{Op: impl.OpOut, A: 1})
			h.Words[56] = impl.InsWord(impl.Ins{Op: impl.OpIn, N: 3})
			h.Words[88] = impl.InsWord(impl.Ins{Op: impl.OpMask, A: 3, N: 9})
			checkExit(t, h, 1, want)
		}
	}
}

// quiet has cores that do no instruction in the next step: they have stopped, or are interrupted by it.
func quiet(c impl.Core) []impl.Core {
	list := []impl.Core{}
	for _, turned := range flagged(c) {
		for _, timer := range []int{0, 1, 2, 4095} {
			turned.Timer = timer
			if turned.Stopped || turned.On && (turned.Waits || timer == 1) {
				list = append(list, turned)
			}
		}
	}
	return list
}

func isQuiet(c impl.Core) bool {
	return c.Stopped || c.On && (c.Waits || c.Timer == 1)
}

// busyReaches has instructions, with addresses, that lead out of the guest of exitHost in any way.
func busyReaches() []impl.Host {
	list := []impl.Host{}
	for _, root := range []int{-1, 7} {
		for _, user := range []bool{false, true} {
			list = append(list,
				exitHost(impl.Ins{Op: impl.OpLoad, A: 1}, 9, root, user),
				exitHost(impl.Ins{Op: impl.OpStore, A: 1}, 9, root, user),
				exitHost(impl.Ins{Op: impl.OpStore, A: 1}, 18, root, user),
				exitHost(impl.Ins{Op: impl.OpOut, A: 1}, 0, root, user),
			)
			lost := exitHost(impl.Ins{}, 0, root, user)
			lost.Guests[1].C.Pc = 12
			list = append(list, lost)
		}
	}
	return list
}

func TestGuestExitOfGuestsThatDoNoInstruction(t *testing.T) {
	for _, h := range busyReaches() {
		for _, c := range quiet(h.Guests[1].C) {
			h.Guests[1].C = c
			checkExit(t, h, 1, impl.Exit{})
		}
	}
}

// A timer that leaves the guest alone for this step, or comes to it while interrupts are not let in, does not matter.
func TestGuestExitOfGuestsWithTimersThatAreNotDue(t *testing.T) {
	for _, h := range busyReaches() {
		for _, c := range flagged(h.Guests[1].C) {
			c.User = h.Guests[1].C.User
			for _, timer := range []int{0, 1, 2, 4095} {
				c.Timer = timer
				if isQuiet(c) {
					continue
				}
				turned := cloned(h)
				turned.Guests[1].C = c
				checkExit(t, turned, 1, impl.GuestExit(h, 1))
			}
		}
	}
}

// wantExit walks in what the guest looks like first, and asks for frames then, where the program goes by the shadow table.
func wantExit(h impl.Host, g int) impl.Exit {
	b := wantView(h, g)
	c := b.C
	if isQuiet(c) {
		return impl.Exit{}
	}
	at := wantWalk(b.Mem, c.Root, c.Pc, access{user: c.User})
	if e := wantAnswer(h, g, at, false); at < 0 || e != (impl.Exit{}) {
		return e
	}
	op, a, n := b.Mem[at]>>8, b.Mem[at]>>6&3, b.Mem[at]&63
	switch {
	case operations()[op].kernel && c.User:
		return impl.Exit{}
	case operations()[op].kernel:
		return impl.Exit{Why: 1, What: impl.Ins{Op: op, A: a, N: n}}
	case op == 3 || op == 4:
		at = wantWalk(b.Mem, c.Root, c.Regs[n&3]&63, access{user: c.User, write: op == 4})
		return wantAnswer(h, g, at, op == 4)
	}
	return impl.Exit{}
}

// wantAnswer is what the host has to do for a place of the memory of a guest, which is -1 for a fault.
func wantAnswer(h impl.Host, g int, at int, write bool) impl.Exit {
	if at < 0 {
		return impl.Exit{}
	}
	s := h.Guests[g].Pages[at>>3]
	if s.Frame == -1 {
		return fillOf(at >> 3)
	}
	if write && !s.Write {
		return copyOf(at >> 3)
	}
	return impl.Exit{}
}

// placeWritten is the place of the memory of a guest that its next step writes, or -1.
func placeWritten(h impl.Host, g int) int {
	b := wantView(h, g)
	if isQuiet(b.C) {
		return -1
	}
	at := wantWalk(b.Mem, b.C.Root, b.C.Pc, access{user: b.C.User})
	if at < 0 || b.Mem[at]>>8 != impl.OpStore {
		return -1
	}
	return wantWalk(b.Mem, b.C.Root, b.C.Regs[b.Mem[at]&3]&63, access{user: b.C.User, write: true})
}

// wantGuestStep fills or copies at most one page, does the step as the machine of the guest would, and puts it back.
func wantGuestStep(h impl.Host, g int) (impl.Host, bool) {
	own, ok := cloned(h), true
	switch e := wantExit(h, g); e.Why {
	case impl.ExitFill:
		own, ok = wantFill(h, g, e.Page)
	case impl.ExitCopy:
		own, ok = wantCopy(h, g, e.Page)
	}
	if !ok {
		return cloned(h), false
	}
	b := clonedBare(wantView(h, g))
	wantStep(&b)
	guest := &own.Guests[g]
	guest.C, guest.In, guest.Out = b.C, b.In, b.Out
	if at := placeWritten(h, g); at >= 0 {
		own.Words[guest.Pages[at>>3].Frame<<3|at&7] = b.Mem[at]
		guest.Pages[at>>3].Dirty = true
	}
	return own, true
}

// checkStep looks at one step of a guest, at how it leads out, and at what it leads to, and returns the host behind it.
func checkStep(t *testing.T, h impl.Host, g int) (impl.Host, bool) {
	t.Helper()
	checkExit(t, h, g, wantExit(h, g))
	want, wantOk := wantGuestStep(h, g)
	got, ok := impl.HostStep(h, g)
	checkHost(t, "a step", got, ok, want, wantOk)
	return got, ok
}

// crowded gives all frames of a host but some of the free ones to pages that have none, of other guests first, and leaves one page of a guest as it is.
func crowded(h impl.Host, g int, page int, left int) impl.Host {
	free := wantFree(h)
	for _, other := range []int{(g + 1) % 3, (g + 2) % 3, g} {
		if !h.Guests[other].Live {
			h.Guests[other] = plainGuest()
		}
		for k := range h.Guests[other].Pages {
			s := &h.Guests[other].Pages[k]
			if s.Frame == -1 && (other != g || k != page) && len(free) > left {
				*s = impl.Slot{Frame: free[0], Write: true}
				free = free[1:]
			}
		}
	}
	return h
}

// reach is a guest whose next step comes to a page in a slot of a kind, on a host with free frames, with one, and with none.
type reach struct {
	c slotCase
	// bits is what an entry lets be done that leads to the page, or -1 without a table.
	bits int
	user bool
	i    impl.Ins
	// code, data and table tell what is in the page: the instruction, its word, and the table.
	code  bool
	data  bool
	table bool
}

// reachHost puts the instruction into frame 2 and the table into frame 13, if they are not in the page itself, which is in frame 6 if it has one; a word that is elsewhere is in a page without a frame.
func reachHost(r reach, g int, page int) impl.Host {
	h := hostOfSlot(r.c, g, page)
	guest := &h.Guests[g]
	code, data := (page+3)%8, (page+2)%8
	if r.code {
		code = page
	} else {
		guest.Pages[code] = impl.Slot{Frame: 2, Write: g != 1}
	}
	if r.data {
		data = page
	}
	guest.C.Pc, guest.C.User = code*8+1, r.user
	guest.C.Regs = []int{data*8 + 5 + 64*7, 1000 + page, 63, 0}
	if r.bits >= 0 {
		putReachTable(h, r, g, page, code, data)
	}
	if frame := guest.Pages[code].Frame; frame != -1 {
		h.Words[frame*8+1] = impl.InsWord(r.i)
	}
	return h
}

// putReachTable turns the addresses of a guest: each page of memory is at the address of the page behind it, open to all, but for the one that the reach is about.
func putReachTable(h impl.Host, r reach, g int, page int, code int, data int) {
	guest := &h.Guests[g]
	root := (page + 4) % 8
	if r.table {
		root = page
	} else {
		guest.Pages[root] = impl.Slot{Frame: 13, Write: g != 0}
	}
	guest.C.Root = root
	guest.C.Pc = (code+1)%8*8 + 1
	guest.C.Regs[0] = (data+1)%8*8 + 5 + 64*7
	if frame := guest.Pages[root].Frame; frame != -1 {
		for k := 0; k < 8; k++ {
			h.Words[frame*8+(k+1)%8] = k*8 + 7
		}
		h.Words[frame*8+(page+1)%8] = page*8 + r.bits
	}
}

// reachInstructions has instructions of all kinds; what is read or written is by register 0.
func reachInstructions() []impl.Ins {
	list := []impl.Ins{}
	for op := 0; op <= 15; op++ {
		list = append(list, impl.Ins{Op: op, A: 1, N: 20})
	}
	return append(list, impl.Ins{Op: impl.OpLoad, A: 0, N: 60}, impl.Ins{Op: impl.OpStore, A: 0, N: 8})
}

// reaches has all that may be in a page, of all slots, behind all entries; instructions that come to no word are there with their own page alone.
func reaches() []reach {
	list := []reach{}
	for _, c := range slotCases() {
		for bits := -1; bits < 8; bits++ {
			for _, user := range []bool{false, true} {
				for _, i := range reachInstructions() {
					for inside := 1; inside < 8; inside++ {
						r := reach{c: c, bits: bits, user: user, i: i, code: inside&1 != 0, data: inside&2 != 0, table: inside&4 != 0}
						comes := i.Op == impl.OpLoad || i.Op == impl.OpStore
						if r.table && bits == -1 || !comes && inside != 1 {
							continue
						}
						list = append(list, r)
					}
				}
			}
		}
	}
	return list
}

// reachHosts has each reach for another guest and page, in turn.
func reachHosts() []impl.Host {
	list := []impl.Host{}
	for k, r := range reaches() {
		list = append(list, reachHost(r, k%3, k/3%8))
	}
	return list
}

func TestStepsThatComeToPagesOfAllKinds(t *testing.T) {
	seen := [4]int{}
	done, failed := 0, 0
	for k, r := range reaches() {
		g, page := k%3, k/3%8
		for left := 0; left <= 2; left++ {
			h := reachHost(r, g, page)
			if left < 2 {
				h = crowded(h, g, page, left)
			}
			if !impl.HostOk(h) || left < 2 && len(wantFree(h)) != left {
				t.Fatalf("%+v makes no host with %d free frames: %+v", r, left, h)
			}
			seen[wantExit(h, g).Why]++
			if _, ok := checkStep(t, h, g); ok {
				done++
			} else {
				failed++
			}
		}
	}
	if slices.Min(seen[:]) < 500 || min(done, failed) < 500 {
		t.Errorf("exits were seen so often: %v; %d steps were done, %d not", seen, done, failed)
	}
}

// behind is the host of exitHost behind a step of guest 1 that does one instruction, and goes on at the next place.
func behind(h impl.Host, turn func(h *impl.Host, guest *impl.Guest)) impl.Host {
	h = cloned(h)
	guest := &h.Guests[1]
	guest.C.Pc, guest.C.Timer = 5, 16
	turn(&h, guest)
	return h
}

func checkStepByHand(t *testing.T, name string, h impl.Host, want impl.Host) {
	t.Helper()
	got, ok := impl.HostStep(h, 1)
	checkHost(t, name, got, ok, want, true)
}

func TestHostStepThatReadsByHand(t *testing.T) {
	load := impl.Ins{Op: impl.OpLoad, A: 1, N: 4}
	for _, user := range []bool{false, true} {
		h := exitHost(load, 9, -1, user)
		checkStepByHand(t, "reading a page without a frame", h, behind(h, func(h *impl.Host, guest *impl.Guest) {
			guest.C.Regs[1] = 0
			guest.Pages[1] = impl.Slot{Frame: 0, Write: true}
			copy(h.Words[:8], make([]int, 8))
		}))
		for _, c := range []struct{ addr, root, w int }{
			{4, -1, 836}, {18, -1, 1042}, {24, -1, 1056}, {39, -1, 1079}, {40, -1, 1088}, {55, -1, 1095}, {58, -1, 23},
			{7, 7, 1031}, {16, 7, 1040}, {47, 7, 1095},
		} {
			h := exitHost(load, c.addr, c.root, user)
			checkStepByHand(t, "reading a page in a frame", h, behind(h, func(h *impl.Host, guest *impl.Guest) {
				guest.C.Regs[1] = c.w
			}))
		}
	}
	h := exitHost(load, 34, 7, true)
	checkStepByHand(t, "reading a page without a frame behind a table", h, behind(h, func(h *impl.Host, guest *impl.Guest) {
		guest.C.Regs[1] = 0
		guest.Pages[1] = impl.Slot{Frame: 0, Write: true}
		copy(h.Words[:8], make([]int, 8))
	}))
}

func TestHostStepThatWritesByHand(t *testing.T) {
	cases := []struct {
		name string
		addr int
		root int
		turn func(h *impl.Host, guest *impl.Guest)
	}{
		{"writing a page without a frame", 9, -1, func(h *impl.Host, guest *impl.Guest) {
			guest.Pages[1] = impl.Slot{Frame: 0, Write: true, Dirty: true}
			copy(h.Words, []int{0, 66, 0, 0, 0, 0, 0, 0})
		}},
		{"writing a page that another guest has, too", 18, 7, func(h *impl.Host, guest *impl.Guest) {
			guest.Pages[2] = impl.Slot{Frame: 0, Write: true, Dirty: true}
			copy(h.Words, []int{1040, 1041, 66, 1043, 1044, 1045, 1046, 1047})
		}},
		{"writing a page that is alone, and Dirty", 31, -1, func(h *impl.Host, guest *impl.Guest) {
			guest.Pages[3] = impl.Slot{Frame: 7, Write: true, Dirty: true}
			h.Words[63] = 66
		}},
		{"writing a page that may be written", 32, -1, func(h *impl.Host, guest *impl.Guest) {
			h.Words[72] = 66
		}},
		{"writing a page that the same guest has twice", 43, -1, func(h *impl.Host, guest *impl.Guest) {
			guest.Pages[5] = impl.Slot{Frame: 0, Write: true, Dirty: true}
			copy(h.Words, []int{1088, 1089, 1090, 66, 1092, 1093, 1094, 1095})
		}},
		{"writing another page than that of the address", 43, 7, func(h *impl.Host, guest *impl.Guest) {
			guest.Pages[6] = impl.Slot{Frame: 0, Write: true, Dirty: true}
			copy(h.Words, []int{1088, 1089, 1090, 66, 1092, 1093, 1094, 1095})
		}},
		{"writing the page of the instruction", 7, 7, func(h *impl.Host, guest *impl.Guest) {
			guest.Pages[0].Dirty = true
			h.Words[31] = 66
		}},
		{"writing the instruction itself", 4, -1, func(h *impl.Host, guest *impl.Guest) {
			guest.Pages[0].Dirty = true
			h.Words[28] = 66
		}},
		{"writing a page of the table", 57, 7, func(h *impl.Host, guest *impl.Guest) {
			guest.Pages[7].Dirty = true
			h.Words[105] = 66
		}},
	}
	for k, c := range cases {
		for _, user := range []bool{false, true} {
			// The table, at the end, is for the kernel.
			if user && k == len(cases)-1 {
				continue
			}
			h := exitHost(impl.Ins{Op: impl.OpStore, A: 1, N: 4}, c.addr, c.root, user)
			checkStepByHand(t, c.name, h, behind(h, c.turn))
		}
	}
}

// A page that is in a frame alone becomes Dirty, if it was not.
func TestHostStepThatWritesAPageThatIsAloneByHand(t *testing.T) {
	h := exitHost(impl.Ins{Op: impl.OpStore, A: 1, N: 4}, 31, -1, true)
	h.Guests[1].Pages[3].Dirty = false
	checkStepByHand(t, "writing a page that is alone", h, behind(h, func(h *impl.Host, guest *impl.Guest) {
		guest.Pages[3] = impl.Slot{Frame: 7, Write: true, Dirty: true}
		h.Words[63] = 66
	}))
}

// The table is that by which the page was found; from the next step on the one that was written leads.
func TestHostStepsByATableThatIsWrittenByHand(t *testing.T) {
	h := exitHost(impl.Ins{Op: impl.OpStore, A: 1, N: 4}, 57, 7, false)
	h.Guests[1].C.Regs[1] = 8*2 + 1
	h.Guests[1].C.Regs[2] = 9
	h.Words[29] = impl.InsWord(impl.Ins{Op: impl.OpLoad, A: 3, N: 2})
	h.Words[30] = impl.InsWord(impl.Ins{Op: impl.OpStore, A: 3, N: 2})
	h, _ = impl.HostStep(h, 1)
	h, ok := impl.HostStep(h, 1)
	if !ok || h.Guests[1].C.Regs[3] != 1041 || h.Guests[1].C.Pc != 6 {
		t.Fatalf("behind a table that was written: %+v, %v", h, ok)
	}
	checkExit(t, h, 1, impl.Exit{})
	h, ok = impl.HostStep(h, 1)
	if c := h.Guests[1].C; !ok || c.Cause != impl.CauseFault || c.Bad != 9 || c.Saved != 6 || c.Pc != 50 {
		t.Fatalf("behind a fault: %+v, %v", h, ok)
	}
}

// trapped is a core of exitHost behind a step that is a trap.
func trapped(c impl.Core, cause int, bad int, saved int) impl.Core {
	b := trapTo(impl.Bare{C: c}, cause, bad, saved)
	b.C.Timer = 16
	return b.C
}

// A fault of the guest is one, whatever the host had to do for the page; it needs no frame, and nothing is written.
func TestHostStepThatIsAFaultByHand(t *testing.T) {
	for _, op := range []int{impl.OpLoad, impl.OpStore} {
		for addr := 0; addr < 64; addr++ {
			for _, user := range []bool{false, true} {
				h := exitHost(impl.Ins{Op: op, A: 1, N: 4}, addr, 7, user)
				number := addr / 8
				isFault := number == 6 || user && (number == 3 || number == 7) || op == impl.OpStore && number == 4
				got, _ := impl.HostStep(h, 1)
				if !isFault {
					if got.Guests[1].C.Cause == impl.CauseFault {
						t.Fatalf("there is a fault at %d: %+v", addr, got)
					}
					continue
				}
				h = crowded(h, 1, 1, 0)
				want := cloned(h)
				want.Guests[1].C = trapped(h.Guests[1].C, impl.CauseFault, addr, 4)
				checkStepByHand(t, "a fault", h, want)
			}
		}
	}
}

func TestHostStepAtAPlaceThatLeadsNowhereByHand(t *testing.T) {
	for pc := 48; pc < 56; pc++ {
		for _, user := range []bool{false, true} {
			h := crowded(exitHost(impl.Ins{}, 0, 7, user), 1, 1, 0)
			h.Guests[1].C.Pc = pc
			want := cloned(h)
			want.Guests[1].C = trapped(h.Guests[1].C, impl.CauseFault, pc, pc)
			checkStepByHand(t, "a place that leads nowhere", h, want)
		}
	}
}

// All words of a page without a frame are 0, which stops the kernel, and is for it alone.
func TestHostStepAtAPlaceWithoutAFrameByHand(t *testing.T) {
	for _, user := range []bool{false, true} {
		for pc := 8; pc < 16; pc++ {
			for _, root := range []int{-1, 7} {
				h := exitHost(impl.Ins{}, 0, root, user)
				h.Guests[1].C.Pc = pc
				want := withSlot(h, 1, 1, impl.Slot{Frame: 0, Write: true})
				copy(want.Words[:8], make([]int, 8))
				want.Guests[1].C.Timer = 16
				want.Guests[1].C.Stopped = true
				if user {
					want.Guests[1].C = trapped(h.Guests[1].C, impl.CauseMay, 0, pc)
				}
				checkStepByHand(t, "a place without a frame", h, want)
			}
		}
	}
}

// The frames that are missing are missing before anything is done: the timer does not go on, either.
func TestHostStepOnAFullHostByHand(t *testing.T) {
	load, store := impl.Ins{Op: impl.OpLoad, A: 1, N: 4}, impl.Ins{Op: impl.OpStore, A: 1, N: 4}
	cases := []struct {
		i    impl.Ins
		addr int
		root int
		pc   int
		ok   bool
	}{
		{load, 9, -1, 4, false},
		{store, 9, -1, 4, false},
		{store, 18, -1, 4, false},
		{store, 43, -1, 4, false},
		{store, 51, -1, 4, false},
		{load, 34, 7, 4, false},
		{store, 18, 7, 4, false},
		{load, 0, -1, 8, false},
		{load, 0, 7, 15, false},
		{load, 18, -1, 4, true},
		{load, 43, -1, 4, true},
		{store, 27, -1, 4, true},
		{store, 35, -1, 4, true},
		{store, 5, 7, 4, true},
		{store, 34, 7, 4, true},
		{store, 50, 7, 4, true},
		{impl.Ins{Op: impl.OpOut}, 9, -1, 4, true},
		{impl.Ins{Op: impl.OpCall}, 9, -1, 4, true},
		{impl.Ins{Op: impl.OpAdd}, 9, -1, 4, true},
	}
	for _, c := range cases {
		for _, user := range []bool{false, true} {
			for left := 0; left < 2; left++ {
				h := exitHost(c.i, c.addr, c.root, user)
				h.Guests[1].C.Pc = c.pc
				h = crowded(h, 1, 1, left)
				got, ok := impl.HostStep(h, 1)
				if ok != (c.ok || left == 1) {
					t.Fatalf("%+v at %d with %d free frames is done: %v, in %+v", c.i, c.addr, left, ok, h)
				}
				if !ok {
					checkSame(t, "a host on which a frame is missing", got, h)
					continue
				}
				if many := len(impl.HostFree(got)); c.ok && many != left || !c.ok && many != 0 {
					t.Fatalf("%+v at %d leaves %d of %d free frames", c.i, c.addr, many, left)
				}
			}
		}
	}
}

// Behind the first frame that is given another one is missing; when a guest goes there are enough.
func TestHostStepsUntilAFrameIsMissing(t *testing.T) {
	h := exitHost(impl.Ins{Op: impl.OpStore, A: 1, N: 4}, 9, -1, true)
	h.Words[29] = impl.InsWord(impl.Ins{Op: impl.OpStore, A: 2, N: 4})
	h = crowded(h, 1, 1, 1)
	h, ok := checkStep(t, h, 1)
	if !ok || h.Guests[1].Pages[1].Frame == -1 {
		t.Fatalf("the last frame was not given: %+v", h)
	}
	h.Guests[1].C.Regs[0] = 18
	for k := 0; k < 3; k++ {
		then, ok := checkStep(t, h, 1)
		if ok {
			t.Fatalf("a frame that is missing was given: %+v", then)
		}
		checkSame(t, "a host on which a frame is missing", then, h)
		h = then
	}
	h = dropped(t, h, 2)
	h, ok = checkStep(t, h, 1)
	if !ok || h.Guests[1].Pages[2].Frame == 5 || !h.Guests[1].Pages[2].Dirty {
		t.Fatalf("with frames again: %+v, %v", h, ok)
	}
}

func TestHostStepOfGuestsThatHaveStopped(t *testing.T) {
	for _, h := range busyReaches() {
		for _, given := range []impl.Host{h, crowded(cloned(h), 1, 1, 0)} {
			for _, c := range quiet(given.Guests[1].C) {
				if !c.Stopped {
					continue
				}
				given.Guests[1].C = c
				checkStepByHand(t, "a step of one that has stopped", given, given)
			}
		}
	}
}

// A guest that is interrupted needs no frame, and writes nothing.
func TestHostStepOfGuestsThatAreInterrupted(t *testing.T) {
	for _, h := range busyReaches() {
		for _, given := range []impl.Host{h, crowded(cloned(h), 1, 1, 0)} {
			for _, c := range quiet(given.Guests[1].C) {
				if c.Stopped {
					continue
				}
				given.Guests[1].C = c
				want := cloned(given)
				want.Guests[1].C = trapped(c, impl.CauseTick, 0, c.Pc)
				want.Guests[1].C.Timer = max(c.Timer-1, 0)
				want.Guests[1].C.Waits = false
				checkStepByHand(t, "a step that is interrupted", given, want)
			}
		}
	}
}

func TestHostStepWithTimers(t *testing.T) {
	for _, h := range busyReaches() {
		for _, c := range timerCases() {
			for left := 0; left <= 2; left++ {
				given := cloned(h)
				if left < 2 {
					given = crowded(given, 1, 1, left)
				}
				given.Guests[1].C = timed(impl.Bare{C: given.Guests[1].C}, c).C
				checkStep(t, given, 1)
			}
		}
	}
}

// stepHosts has hosts for single steps: of all reaches, and mixed ones.
func stepHosts() []impl.Host {
	list := slices.Concat(reachHosts(), rootedHosts(), givenHosts(), busyReaches())
	for k, r := range reaches() {
		if k%3 == 0 {
			list = append(list, crowded(reachHost(r, k%4%3, k/4%8), k%4%3, k/4%8, k/9%2))
		}
	}
	return list
}

func TestStepsOfManyHosts(t *testing.T) {
	done, failed := 0, 0
	for _, h := range stepHosts() {
		for _, g := range guestsOf(h) {
			if _, ok := checkStep(t, h, g); ok {
				done++
			} else {
				failed++
			}
		}
	}
	if done < 1000 || failed < 100 {
		t.Errorf("%d steps were done, %d not", done, failed)
	}
}

// unwritten is a host on which no page may be written before it is copied.
func unwritten(h impl.Host) impl.Host {
	h = cloned(h)
	for g := range h.Guests {
		for page := range h.Guests[g].Pages {
			h.Guests[g].Pages[page].Write = false
		}
	}
	return h
}

// Guests do steps in turn, and what one of them leads to is where the next one begins.
func TestManyStepsOfManyHosts(t *testing.T) {
	list := slices.Concat(rootedHosts(), givenHosts())
	for _, h := range slices.Concat(mixedHosts(), busyReaches()) {
		list = append(list, unwritten(h))
	}
	seen := [4]int{}
	writes, failed := 0, 0
	for k, h := range list {
		guests := guestsOf(h)
		for turn := 0; turn < 24 && len(guests) > 0; turn++ {
			g := guests[(turn*turn+k)%len(guests)]
			seen[impl.GuestExit(h, g).Why]++
			if placeWritten(h, g) >= 0 {
				writes++
			}
			then, ok := checkStep(t, h, g)
			if !ok {
				failed++
			}
			h = then
		}
	}
	if slices.Min(seen[:]) < 50 || writes < 100 || failed < 10 {
		t.Errorf("exits were seen so often: %v; %d steps wrote, %d were not done", seen, writes, failed)
	}
}

func TestP12NothingLeadsOutOfAGuestButForTheHost(t *testing.T) {
	filled, copied, failed := 0, 0, 0
	for _, h := range stepHosts() {
		for _, g := range guestsOf(h) {
			e := impl.GuestExit(h, g)
			if e.Why != impl.ExitFill && e.Why != impl.ExitCopy {
				if e.Page != 0 || e.Why == impl.ExitNone && e.What != (impl.Ins{}) {
					t.Fatalf("without a page that is needed guest %d leads out by %+v", g, e)
				}
				continue
			}
			s := h.Guests[g].Pages[e.Page]
			then, ok := impl.HostCopy(h, g, e.Page)
			if e.Why == impl.ExitFill {
				then, ok = impl.HostFill(h, g, e.Page)
			}
			if (s.Frame == -1) != (e.Why == impl.ExitFill) || s.Write || e.What != (impl.Ins{}) {
				t.Fatalf("guest %d of %+v leads out by %+v", g, h, e)
			}
			if !ok {
				failed++
				continue
			}
			again := impl.GuestExit(then, g)
			if again.Why >= impl.ExitFill && again.Page == e.Page {
				t.Fatalf("behind %+v guest %d of %+v leads out by %+v", e, g, h, again)
			}
			if e.Why == impl.ExitFill {
				filled++
			} else {
				copied++
			}
		}
	}
	if min(filled, copied, failed) < 100 {
		t.Errorf("%d were filled, %d copied, %d not", filled, copied, failed)
	}
}

// Where nothing leads out but to the kernel, the step takes no frame, and there is one without a free frame, too.
func TestP12WhereNothingLeadsOutNoFrameIsTaken(t *testing.T) {
	none, some := 0, 0
	for _, h := range stepHosts() {
		for _, g := range guestsOf(h) {
			e := impl.GuestExit(h, g)
			then, ok := impl.HostStep(h, g)
			before, left := len(impl.HostFree(h)), len(impl.HostFree(then))
			if e.Why == impl.ExitNone || e.Why == impl.ExitMay {
				none++
				if !ok || left != before {
					t.Fatalf("guest %d of %+v does not lead out: %v, and of %d frames %d are free", g, h, ok, before, left)
				}
				continue
			}
			some++
			if left != before && left != before-1 {
				t.Fatalf("guest %d of %+v takes more than a frame: of %d are left %d", g, h, before, left)
			}
		}
	}
	if min(none, some) < 1000 {
		t.Errorf("%d steps did not lead out, and %d did", none, some)
	}
}

// checkGuestStep looks at a step from outside alone.
func checkGuestStep(t *testing.T, h impl.Host, g int) (impl.Host, bool) {
	t.Helper()
	before, there := impl.HostView(h, g)
	then, ok := impl.HostStep(h, g)
	if !there || !impl.HostOk(then) {
		t.Fatalf("behind a step of guest %d it is %+v, %v", g, then, ok)
	}
	if !ok {
		checkSameViews(t, "a step that was not done", h, then, -1)
		checkSame(t, "a host behind a step that was not done", then, h)
		return then, ok
	}
	seen, _ := impl.HostView(then, g)
	checkBare(t, "a guest behind a step", seen, impl.BareStep(before))
	checkSameViews(t, "a step", h, then, g)
	return then, ok
}

func TestP13AGuestCannotTell(t *testing.T) {
	done, failed := 0, 0
	for _, h := range stepHosts() {
		for _, g := range guestsOf(h) {
			if _, ok := checkGuestStep(t, h, g); ok {
				done++
			} else {
				failed++
			}
		}
	}
	if done < 1000 || failed < 100 {
		t.Errorf("%d steps were done, %d not", done, failed)
	}
}

// walkerBare writes a word to each page, one after the other, again and again, and tells how often.
func walkerBare() impl.Bare {
	b := impl.Bare{C: impl.Core{Regs: []int{15, 0, 1, 8}, Root: -1}, Mem: make([]int, 64), In: []int{9}}
	program(b.Mem, 0,
		impl.Ins{Op: impl.OpAdd, A: 1, N: 2}, impl.Ins{Op: impl.OpStore, A: 1, N: 0},
		impl.Ins{Op: impl.OpAdd, A: 0, N: 3}, impl.Ins{Op: impl.OpOut, A: 1}, impl.Ins{Op: impl.OpJump, N: 0})
	return b
}

// bootedHost has the machines as its guests.
func bootedHost(t *testing.T, list []impl.Bare) impl.Host {
	t.Helper()
	h := emptyHost()
	for k, b := range list {
		then, g, ok := impl.HostBoot(h, b)
		if g != k || !ok {
			t.Fatalf("the machine %d is guest %d, %v", k, g, ok)
		}
		h = then
	}
	return h
}

// sharedHost has one machine as all its guests, in the same frames, which none of them may write.
func sharedHost(t *testing.T, b impl.Bare) impl.Host {
	t.Helper()
	h := bootedHost(t, []impl.Bare{b})
	for page := range h.Guests[0].Pages {
		h.Guests[0].Pages[page].Write = false
	}
	h.Guests[1], h.Guests[2] = cloned(h.Guests[0]), cloned(h.Guests[0])
	h.Guests[1].In = []int{4, 5, 6, 7}
	h.Guests[2].C.Timer = 3
	return h
}

// checkBesideMachines lets guests do steps beside their own machines, and tells how many steps were not done.
func checkBesideMachines(t *testing.T, h impl.Host, turns int, next func(turn int) int) int {
	t.Helper()
	own := []impl.Bare{}
	for g := range h.Guests {
		b, _ := impl.HostView(h, g)
		own = append(own, b)
	}
	failed := 0
	for turn := 0; turn < turns; turn++ {
		g := next(turn)
		then, ok := impl.HostStep(h, g)
		if ok {
			own[g] = impl.BareStep(own[g])
		} else {
			failed++
		}
		for other, want := range own {
			seen, _ := impl.HostView(then, other)
			checkBare(t, "a guest beside its machine", seen, want)
		}
		h = then
	}
	return failed
}

func inTurn(turn int) int {
	return turn % 3
}

func unevenly(turn int) int {
	return turn * turn / 5 % 3
}

func TestP13GuestsBesideTheirOwnMachines(t *testing.T) {
	rows := [][]impl.Bare{
		{busyBare(), startedBare(5), walkerBare()},
		{busyBare(), busyBare(), busyBare()},
		{mixedBare(3), tabledBare(true), pagedBare(1, 2)},
	}
	for _, row := range rows {
		for _, next := range []func(int) int{inTurn, unevenly} {
			if failed := checkBesideMachines(t, bootedHost(t, row), 600, next); failed != 0 {
				t.Fatalf("%d steps were not done", failed)
			}
		}
	}
	for _, b := range []impl.Bare{busyBare(), startedBare(9), walkerBare()} {
		for _, next := range []func(int) int{inTurn, unevenly} {
			checkBesideMachines(t, sharedHost(t, b), 600, next)
		}
	}
}

func TestP13MixedGuestsBesideTheirOwnMachines(t *testing.T) {
	for seed, h := range mixedHosts() {
		guests := guestsOf(h)
		if len(guests) == 0 {
			continue
		}
		checkBesideMachines(t, h, 60, func(turn int) int { return guests[(turn+seed)%len(guests)] })
	}
}

// Three guests that write all their pages need 24 frames; when all 20 are taken those that need one stay where they are, and it is so again each time.
func TestP13GuestsForWhichFramesRunOut(t *testing.T) {
	h := bootedHost(t, []impl.Bare{walkerBare(), walkerBare(), walkerBare()})
	if failed := checkBesideMachines(t, h, 300, inTurn); failed < 30 {
		t.Fatalf("%d steps were not done", failed)
	}
	for turn := 0; turn < 300; turn++ {
		h, _ = impl.HostStep(h, turn%3)
	}
	if len(impl.HostFree(h)) != 0 {
		t.Fatalf("%v are free", impl.HostFree(h))
	}
	for g := 0; g < 3; g++ {
		e := impl.GuestExit(h, g)
		if _, ok := impl.HostStep(h, g); ok == (e.Why == impl.ExitFill) {
			t.Fatalf("guest %d leads out by %+v, and its step is done: %v", g, e, ok)
		}
	}
}

func TestP14WhatIsWrittenIsTold(t *testing.T) {
	told, stayed := 0, 0
	for _, h := range stepHosts() {
		for _, g := range guestsOf(h) {
			then, ok := impl.HostStep(h, g)
			if !ok {
				continue
			}
			before, after := wantView(h, g), wantView(then, g)
			for page, s := range then.Guests[g].Pages {
				turned := !slices.Equal(before.Mem[page*8:page*8+8], after.Mem[page*8:page*8+8])
				if turned && !s.Dirty || h.Guests[g].Pages[page].Dirty && !s.Dirty {
					t.Fatalf("page %d of guest %d is not Dirty: %+v, behind %+v", page, g, then, h)
				}
				if turned {
					told++
				}
				if h.Guests[g].Pages[page].Dirty {
					stayed++
				}
			}
		}
	}
	if min(told, stayed) < 500 {
		t.Errorf("%d pages were written, %d were Dirty", told, stayed)
	}
}

// A page is Dirty because it was written alone: not because it was read or given a frame, nor because another one was written.
func TestP14OnlyWhatIsWrittenIsTold(t *testing.T) {
	for _, h := range stepHosts() {
		for _, g := range guestsOf(h) {
			at := placeWritten(h, g)
			then, ok := impl.HostStep(h, g)
			for other := range h.Guests {
				for page, s := range h.Guests[other].Pages {
					written := ok && other == g && at >= 0 && page == at/8
					if then.Guests[other].Pages[page].Dirty != (s.Dirty || written) {
						t.Fatalf("page %d of guest %d of %+v, where guest %d writes at %d: %v", page, other, h, g, at, written)
					}
				}
			}
		}
	}
}

// A word that is written again as it is turns nothing, and its page is Dirty all the same.
func TestP14AWordThatIsWrittenAsItIsIsTold(t *testing.T) {
	for _, addr := range []int{10, 18, 26, 42, 50, 58, 2} {
		h := exitHost(impl.Ins{Op: impl.OpStore, A: 1, N: 4}, addr, -1, true)
		h.Guests[1].Pages[3].Dirty = false
		h.Guests[1].C.Regs[1] = wantView(h, 1).Mem[addr]
		then, ok := impl.HostStep(h, 1)
		if !ok || !then.Guests[1].Pages[addr/8].Dirty {
			t.Fatalf("the word at %d was written, and its page is %+v", addr, then.Guests[1].Pages)
		}
		seen, _ := impl.HostView(then, 1)
		if !slices.Equal(seen.Mem, wantView(h, 1).Mem) {
			t.Fatalf("the word at %d turned", addr)
		}
	}
}

// wantEmulate does an instruction to the core of a guest, whatever else stands there; the timer is not asked.
func wantEmulate(h impl.Host, g int, i impl.Ins) impl.Host {
	own := cloned(h)
	guest := &own.Guests[g]
	b := impl.Bare{C: guest.C, In: guest.In, Out: guest.Out}
	wantDone(&b, i.Op, i.A, i.N, 0, (b.C.Pc+1)%64)
	guest.C, guest.In, guest.Out = b.C, b.In, b.Out
	return own
}

func checkEmulate(t *testing.T, h impl.Host, g int, i impl.Ins) {
	t.Helper()
	got, ok := impl.HostEmulate(h, g, i)
	checkHost(t, "an instruction", got, ok, wantEmulate(h, g, i), true)
}

func kernelInstructions() []impl.Ins {
	list := []impl.Ins{}
	for _, o := range operations() {
		for a := 0; a <= 3 && o.kernel; a++ {
			for n := 0; n <= 63; n++ {
				list = append(list, impl.Ins{Op: o.op, A: a, N: n})
			}
		}
	}
	return list
}

func TestHostEmulateByHand(t *testing.T) {
	for _, c := range kernelCases() {
		for _, user := range []bool{false, true} {
			b := handBare(c.i, user)
			h := withGuest(emptyHost(), 2, guestAs(b, noSlots()))
			b.C.Pc = 6
			c.turn(&b)
			got, ok := impl.HostEmulate(h, 2, c.i)
			checkHost(t, c.name, got, ok, withGuest(h, 2, guestAs(b, noSlots())), true)
		}
	}
}

func TestHostEmulateOfAllInstructions(t *testing.T) {
	for k, i := range kernelInstructions() {
		checkEmulate(t, shadowHost(), k%2, i)
		checkEmulate(t, handHost(), k%2*2, i)
	}
}

// emulatedHosts has guests at both ends of what a core and its words may be.
func emulatedHosts() []impl.Host {
	list := givenHosts()
	for k, c := range cores() {
		b := impl.Bare{C: c, In: rowsOfWords()[k%35], Out: rowsOfWords()[34-k%35]}
		list = append(list, withGuest(handHost(), k%3, guestAs(b, noSlots())))
	}
	return list
}

func TestHostEmulateOfManyHosts(t *testing.T) {
	some := []impl.Ins{}
	for _, i := range kernelInstructions() {
		if i.N == (i.A+i.Op)%4 || i.N == 60+i.A {
			some = append(some, i)
		}
	}
	for _, h := range emulatedHosts() {
		for _, g := range guestsOf(h) {
			for _, i := range some {
				checkEmulate(t, h, g, i)
			}
		}
	}
}

// The core is not asked whether users are at it, has stopped, or is due to be interrupted, and does not tick.
func TestHostEmulateOfCoresOfAllKinds(t *testing.T) {
	for _, h := range busyReaches()[:2] {
		for _, c := range flagged(plainCore()) {
			for _, timer := range []int{0, 1, 4095} {
				c.Timer = timer
				h.Guests[1].C = c
				for _, k := range kernelCases() {
					checkEmulate(t, h, 1, k.i)
				}
			}
		}
	}
}

// An exit to the kernel is answered by the instruction that it tells: without a timer that is the whole step.
func TestAStepThatLeadsOutToTheKernelIsItsInstruction(t *testing.T) {
	many := 0
	for _, h := range stepHosts() {
		for _, g := range guestsOf(h) {
			e := impl.GuestExit(h, g)
			if e.Why != impl.ExitMay {
				continue
			}
			many++
			still := cloned(h)
			still.Guests[g].C.Timer = 0
			did, ok := impl.HostEmulate(still, g, e.What)
			then, _ := impl.HostStep(still, g)
			checkHost(t, "the instruction of an exit", did, ok, then, true)
		}
	}
	if many < 500 {
		t.Errorf("there were only %d such exits", many)
	}
}

func TestP59WhatTheHostDoesToACoreIsDoneToOneGuest(t *testing.T) {
	for _, h := range emulatedHosts() {
		for _, g := range guestsOf(h) {
			before, _ := impl.HostView(h, g)
			for _, c := range kernelCases() {
				then, ok := impl.HostEmulate(h, g, c.i)
				if !ok || !impl.HostOk(then) {
					t.Fatalf("behind %s of guest %d it is %+v, %v", c.name, g, then, ok)
				}
				seen, _ := impl.HostView(then, g)
				if !slices.Equal(seen.Mem, before.Mem) {
					t.Fatalf("%s turns the memory of guest %d from %v to %v", c.name, g, before.Mem, seen.Mem)
				}
				checkSameViews(t, c.name, h, then, g)
				if !slices.Equal(then.Words, h.Words) || !slices.Equal(then.Guests[g].Pages, h.Guests[g].Pages) {
					t.Fatalf("%s turns words or slots of %+v", c.name, h)
				}
			}
		}
	}
}

func TestHostEmulateOfOtherInstructions(t *testing.T) {
	for _, i := range instructions() {
		isOne := wantInsOk(i) && operations()[i.Op].kernel
		then, ok := impl.HostEmulate(handHost(), 2, i)
		if ok != isOne || !isOne && !isNothing(then) {
			t.Fatalf("%+v was done: %v, %+v", i, ok, then)
		}
	}
}

// checkNotRun looks whether nothing is done for a guest that is not there.
func checkNotRun(t *testing.T, h impl.Host, g int) {
	t.Helper()
	checkExit(t, h, g, impl.Exit{})
	if then, ok := impl.HostStep(h, g); ok || !isNothing(then) {
		t.Fatalf("guest %d of %+v did a step: %+v, %v", g, h, then, ok)
	}
	for _, i := range []impl.Ins{{}, {Op: impl.OpOut, A: 1}, {Op: impl.OpIn, A: 3, N: 3}, {Op: impl.OpPut}, {Op: 16}} {
		if then, ok := impl.HostEmulate(h, g, i); ok || !isNothing(then) {
			t.Fatalf("guest %d of %+v did %+v: %+v, %v", g, h, i, then, ok)
		}
	}
}

func TestStepsOfOtherHosts(t *testing.T) {
	for _, h := range brokenHosts() {
		for _, g := range []int{-1, 0, 1, 2, 3} {
			checkNotRun(t, h, g)
		}
	}
}

func TestStepsOfGuestsThatAreNotThere(t *testing.T) {
	for _, h := range givenHosts() {
		for _, g := range numbersOfGuests() {
			if !isThere(h, g) {
				checkNotRun(t, h, g)
			}
		}
	}
}

func TestStepsOfGuestsAtTheEndsOfTheirRange(t *testing.T) {
	for g := 0; g < 3; g++ {
		h := withGuest(emptyHost(), g, plainGuest())
		if _, ok := checkStep(t, h, g); !ok {
			t.Fatalf("guest %d did no step", g)
		}
		checkEmulate(t, h, g, impl.Ins{Op: impl.OpOut, A: 2})
		for _, other := range numbersOfGuests() {
			if other != g {
				checkNotRun(t, h, other)
			}
		}
	}
}

// checkStepsApart looks whether a step and an instruction are new memory, and leave what was given as it is.
func checkStepsApart(t *testing.T, h impl.Host) {
	t.Helper()
	given := clonedWithRoom(h)
	before := wholeOf(given)
	for g := -1; g <= 3; g++ {
		impl.GuestExit(given, g)
		then, _ := impl.HostStep(given, g)
		checkNewMemory(t, "a host behind a step", then, given)
		for _, i := range []impl.Ins{{Op: impl.OpStop}, {Op: impl.OpOut, A: 1}, {Op: impl.OpIn, A: 1}, {Op: impl.OpBack}} {
			did, _ := impl.HostEmulate(given, g, i)
			checkNewMemory(t, "a host behind an instruction", did, given)
		}
	}
	if !slices.Equal(wholeOf(given), before) {
		t.Fatalf("a host was written to: %+v", h)
	}
}

func TestStepsOfGuestsAreNewMemory(t *testing.T) {
	for k, h := range stepHosts() {
		if k%11 == 0 {
			checkStepsApart(t, h)
		}
	}
	for _, h := range append(busyReaches(), apartHosts()...) {
		checkStepsApart(t, h)
	}
	for _, h := range busyReaches()[:3] {
		for _, c := range quiet(h.Guests[1].C) {
			h.Guests[1].C = c
			checkStepsApart(t, h)
		}
	}
}

// The guests of this host have their slots in one row, and their words where those of its frames are; what one of them does is done to it alone.
func TestStepsOfListsThatShareMemory(t *testing.T) {
	for w := 0; w <= 4095; w += 7 {
		h := hostOfOneRow()
		h.Words[11*8+1] = w
		for g := 0; g < 2; g++ {
			h.Guests[g].C.Pc = 17
			want, wantOk := wantGuestStep(h, g)
			got, ok := impl.HostStep(h, g)
			checkHost(t, "a step", got, ok, want, wantOk)
			checkNewMemory(t, "a host behind a step", got, h)
			i := kernelInstructions()[w/2]
			did, ok := impl.HostEmulate(h, g, i)
			checkHost(t, "an instruction", did, ok, wantEmulate(h, g, i), true)
			checkNewMemory(t, "a host behind an instruction", did, h)
		}
	}
}
