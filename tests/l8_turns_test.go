package tests

import (
	"math"
	"slices"
	"testing"

	"loop.example/guesthouse/impl"
)

// counterBare adds 1 to register 1 in each second step, from the first one on.
func counterBare() impl.Bare {
	b := impl.Bare{C: impl.Core{Regs: []int{1, 0, 0, 0}, Root: -1}, Mem: make([]int, 64)}
	program(b.Mem, 0, impl.Ins{Op: impl.OpAdd, A: 1, N: 0}, impl.Ins{Op: impl.OpJump, N: 0})
	return b
}

// countersHost has three guests that count.
func countersHost(t *testing.T) impl.Host {
	t.Helper()
	return bootedHost(t, []impl.Bare{counterBare(), counterBare(), counterBare()})
}

// countedHost is a host of guests that count, behind so many steps of each of them.
func countedHost(h impl.Host, steps [3]int) impl.Host {
	h = cloned(h)
	for g, many := range steps {
		if many > 0 {
			h.Guests[g].C.Regs[1] = (many + 1) / 2
			h.Guests[g].C.Pc = many % 2
		}
	}
	return h
}

func checkRunAs(t *testing.T, name string, h impl.Host, turns []int, want impl.Host, wantMany int) {
	t.Helper()
	got, many := impl.HostRun(h, turns)
	if many != wantMany {
		t.Fatalf("%s: of the turns %v %d were done, not %d", name, turns, many, wantMany)
	}
	checkSame(t, name+": a host behind turns", got, want)
}

func TestHostRunByHand(t *testing.T) {
	cases := []struct {
		turns []int
		many  int
		steps [3]int
	}{
		{nil, 0, [3]int{}},
		{[]int{}, 0, [3]int{}},
		{[]int{0}, 1, [3]int{1, 0, 0}},
		{[]int{2}, 1, [3]int{0, 0, 1}},
		{[]int{1}, 0, [3]int{}},
		{[]int{-1}, 0, [3]int{}},
		{[]int{3}, 0, [3]int{}},
		{[]int{0, 2}, 2, [3]int{1, 0, 1}},
		{[]int{1, 0}, 1, [3]int{1, 0, 0}},
		{[]int{0, 1}, 1, [3]int{1, 0, 0}},
		{[]int{0, 0, 0, 0, 0}, 5, [3]int{5, 0, 0}},
		{[]int{2, 2, 0, 2}, 4, [3]int{1, 0, 3}},
		{[]int{2, 0, 1, 0, -1, 2, 0, 3}, 5, [3]int{3, 0, 2}},
		{[]int{math.MinInt, 1, 1, 3, -1, 4, 6, 20, math.MaxInt}, 0, [3]int{}},
		{[]int{math.MaxInt, 2, math.MinInt}, 1, [3]int{0, 0, 1}},
	}
	h := dropped(t, countersHost(t), 1)
	for _, c := range cases {
		checkRunAs(t, "two that count", h, c.turns, countedHost(h, c.steps), c.many)
	}
	all := countersHost(t)
	checkRunAs(t, "three that count", all, []int{2, 1, 0, 1, 2, 1, 3}, countedHost(all, [3]int{1, 3, 2}), 6)
}

func TestHostRunOfNoTurnsUpToMoreThanMay(t *testing.T) {
	for many := 0; many <= 210; many++ {
		turns, steps := []int{}, [3]int{}
		for turn := 0; turn < many; turn++ {
			turns = append(turns, turn%3)
			steps[turn%3]++
		}
		h := countersHost(t)
		if many <= 200 {
			checkRunAs(t, "as many as may", h, turns, countedHost(h, steps), many)
		} else {
			checkRunAs(t, "too many", h, turns, impl.Host{}, 0)
		}
	}
	for _, many := range []int{256, 300, 301, 400, 1000} {
		checkRunAs(t, "too many", countersHost(t), make([]int, many), impl.Host{}, 0)
	}
}

// Turns that are passed by are turns, too: there are too many of them as of all others.
func TestHostRunOfTurnsOfNobodyUpToMoreThanMay(t *testing.T) {
	for _, h := range []impl.Host{emptyHost(), handHost(), writersHost(0), impl.HostNew(0)} {
		nobody := []int{-1, 3}
		for g := range h.Guests {
			if !h.Guests[g].Live || impl.GuestExit(h, g).Why == impl.ExitFill {
				nobody = append(nobody, g)
			}
		}
		for _, g := range nobody {
			for _, many := range []int{0, 1, 2, 199, 200} {
				checkRunAs(t, "turns that are passed by", h, slices.Repeat([]int{g}, many), h, 0)
			}
			for _, many := range []int{201, 202, 400} {
				checkRunAs(t, "too many turns", h, slices.Repeat([]int{g}, many), impl.Host{}, 0)
			}
		}
	}
}

func TestHostRunOfOtherHosts(t *testing.T) {
	for _, h := range brokenHosts() {
		for _, turns := range [][]int{nil, {0}, {2, 1, 0}, {-1}, {3, 1}, make([]int, 200), make([]int, 201)} {
			checkRunAs(t, "no host", h, turns, impl.Host{}, 0)
		}
	}
}

func TestHostRunOfGuestsThatAreNotThere(t *testing.T) {
	for _, h := range givenHosts() {
		all := []int{}
		for _, g := range numbersOfGuests() {
			if !isThere(h, g) {
				all = append(all, g)
				checkRunAs(t, "nobody there", h, []int{g}, h, 0)
				checkRunAs(t, "nobody there", h, []int{g, g, g}, h, 0)
			}
		}
		checkRunAs(t, "nobody there", h, all, h, 0)
	}
}

func TestHostRunOfOneTurnIsAStep(t *testing.T) {
	done, failed := 0, 0
	for _, h := range stepHosts() {
		for _, g := range guestsOf(h) {
			then, ok := impl.HostStep(h, g)
			if ok {
				checkRunAs(t, "a step", h, []int{g}, then, 1)
				done++
			} else {
				checkRunAs(t, "no step", h, []int{g}, h, 0)
				failed++
			}
		}
	}
	if min(done, failed) < 100 {
		t.Errorf("%d steps were done, %d not", done, failed)
	}
}

// writersHost has three guests that store 66 to page 1, which has no frame, at a place that tells who it was, and add it to register 2 from then on. The last ones of the frames are free.
func writersHost(free int) impl.Host {
	h := emptyHost()
	for g := range h.Guests {
		guest := plainGuest()
		guest.C.Pc, guest.C.Timer = 0, 0
		guest.C.Regs = []int{8 + g, 66, 0, 0}
		guest.Pages[0] = impl.Slot{Frame: g, Write: true}
		h.Guests[g] = guest
		program(h.Words, g*8,
			impl.Ins{Op: impl.OpStore, A: 1, N: 0}, impl.Ins{Op: impl.OpAdd, A: 2, N: 1}, impl.Ins{Op: impl.OpJump, N: 1})
	}
	for k := 0; k < 17-free; k++ {
		h.Guests[k/6].Pages[2+k%6] = impl.Slot{Frame: 3 + k, Write: true}
	}
	return h
}

// wrote is a host of writersHost behind a guest's store, which took a frame, and as many steps behind it.
func wrote(h impl.Host, g int, frame int, more int) impl.Host {
	h = cloned(h)
	h.Guests[g].Pages[1] = impl.Slot{Frame: frame, Write: true, Dirty: true}
	copy(h.Words[frame*8:], make([]int, 8))
	h.Words[frame*8+g] = 66
	h.Guests[g].C.Pc = 1 + more%2
	h.Guests[g].C.Regs[2] = 66 * ((more + 1) / 2)
	return h
}

func TestHostRunUntilFramesRunOutByHand(t *testing.T) {
	none, one, two, three := writersHost(0), writersHost(1), writersHost(2), writersHost(3)
	cases := []struct {
		name  string
		h     impl.Host
		turns []int
		want  impl.Host
		many  int
	}{
		{"no frame", none, []int{0, 1, 2, 2, 1, 0}, none, 0},
		{"the first one takes the last frame", one, []int{0, 1, 2}, wrote(one, 0, 19, 0), 1},
		{"it goes on, and the others do not", one, []int{0, 1, 2, 1, 0, 0, 2, 0}, wrote(one, 0, 19, 3), 4},
		{"another one takes the last frame", one, []int{1, 0, 2, 1, 0}, wrote(one, 1, 19, 1), 2},
		{"the last one takes it, behind nobody", one, []int{3, 2, 1, 0, -1, 2}, wrote(one, 2, 19, 1), 2},
		{"two frames for three", two, []int{2, 1, 0, 0, 1}, wrote(wrote(two, 2, 18, 0), 1, 19, 1), 3},
		{"two frames, one of them late", two, []int{0, 0, 0, 2, 1, 1, 2}, wrote(wrote(two, 0, 18, 2), 2, 19, 1), 5},
		{"a frame for each", three, []int{1, 2, 0}, wrote(wrote(wrote(three, 1, 17, 0), 2, 18, 0), 0, 19, 0), 3},
	}
	for _, c := range cases {
		checkRunAs(t, c.name, c.h, c.turns, c.want, c.many)
	}
}

// A guest that needs no frame goes on, wherever its turns are among those of others that need one.
func TestHostRunOnAFullHostByHand(t *testing.T) {
	h := writersHost(0)
	h.Guests[1].C.Pc = 1
	for _, turns := range [][]int{{1, 1, 1}, {0, 1, 2, 1, 0, 1, 2}, {0, 0, 2, 2, 1, 1, 1}, {1, 0, 0, 2, 1, 3, 1}} {
		want := cloned(h)
		want.Guests[1].C.Pc = 2
		want.Guests[1].C.Regs[2] = 132
		checkRunAs(t, "a full host", h, turns, want, 3)
	}
}

// Behind a guest that goes there are frames again, and its own turns are passed by.
func TestHostRunBehindAGuestThatWentByHand(t *testing.T) {
	h, many := impl.HostRun(writersHost(1), []int{0, 1, 2, 0})
	if many != 2 {
		t.Fatalf("%d turns were done", many)
	}
	h = dropped(t, h, 0)
	checkRunAs(t, "frames that were given back", h, []int{0, 2, 0, 1, 1, 0}, wrote(wrote(h, 2, 0, 0), 1, 3, 1), 3)
}

// All words of a page without a frame are 0, which stops the kernel; for that the page must be filled all the same.
func TestHostRunOfPlacesWithoutAFrameByHand(t *testing.T) {
	for _, user := range []bool{false, true} {
		lost := func(free int) impl.Host {
			h := writersHost(free)
			h.Guests[1].C.Pc, h.Guests[1].C.User, h.Guests[1].C.Vector = 12, user, 1
			return h
		}
		full := lost(0)
		checkRunAs(t, "a full host", full, []int{1, 1, 0, 1}, full, 0)
		taken := lost(1)
		checkRunAs(t, "a frame that another one took", taken, []int{0, 1, 1}, wrote(taken, 0, 19, 0), 1)
		h := lost(1)
		want := withSlot(h, 1, 1, impl.Slot{Frame: 19, Write: true})
		copy(want.Words[19*8:], make([]int, 8))
		want.Guests[1].C.Stopped = true
		if user {
			want.Guests[1].C = trapTo(impl.Bare{C: h.Guests[1].C}, impl.CauseMay, 0, 12).C
			want.Guests[1].C.Pc = 2
			want.Guests[1].C.Regs[2] = 66
			checkRunAs(t, "a place without a frame, for users", h, []int{1, 0, 1, 0}, want, 2)
			continue
		}
		checkRunAs(t, "a place without a frame", h, []int{1, 0, 1, 0, 1}, want, 3)
	}
}

// Turns of a guest that has stopped are done: its steps leave it as it is, and need no frame.
func TestHostRunOfGuestsThatHaveStopped(t *testing.T) {
	h := writersHost(0)
	h.Guests[0].C.Stopped, h.Guests[2].C.Stopped = true, true
	checkRunAs(t, "two that have stopped", h, []int{0, 1, 2, 0, 0, 1}, h, 4)
	checkRunAs(t, "all that have stopped", stoppedHost(), []int{0, 1, 2, 0, 0, 1, 3}, stoppedHost(), 6)
	checkRunAs(t, "200 turns of one that has stopped", h, slices.Repeat([]int{2}, 200), h, 200)
	stopping := countersHost(t)
	stopping.Words[stopping.Guests[1].Pages[0].Frame*8+1] = impl.InsWord(impl.Ins{Op: impl.OpStop})
	want := countedHost(stopping, [3]int{3, 1, 0})
	want.Guests[1].C.Stopped = true
	checkRunAs(t, "one that stops", stopping, []int{1, 0, 1, 1, 0, 1, 0}, want, 7)
}

// A guest that is interrupted needs no frame for that step; its kernel, from its vector on, needs none either.
func TestHostRunOfGuestsThatAreInterruptedByHand(t *testing.T) {
	h := writersHost(0)
	c := &h.Guests[1].C
	c.On, c.Waits, c.User, c.Vector = true, true, true, 1
	want := cloned(h)
	want.Guests[1].C = trapTo(impl.Bare{C: *c}, impl.CauseTick, 0, 0).C
	want.Guests[1].C.Waits = false
	checkRunAs(t, "a tick that waits", h, []int{0, 1, 2}, want, 1)
	want.Guests[1].C.Pc, want.Guests[1].C.Regs = 2, []int{9, 66, 66, 0}
	checkRunAs(t, "a kernel behind a tick", h, []int{0, 1, 2, 1, 0}, want, 2)
	c.Waits, c.Timer = false, 1
	checkRunAs(t, "a timer that is due", h, []int{1, 2, 0, 1}, want, 2)
}

// A turn that is passed by is no step: the timer does not go on, so no tick helps a guest that lacks a frame.
func TestHostRunOfTurnsThatArePassedByDoesNotTick(t *testing.T) {
	h := writersHost(0)
	for g := range h.Guests {
		h.Guests[g].C.On, h.Guests[g].C.Timer = true, 2+g
	}
	checkRunAs(t, "no ticks", h, []int{0, 1, 2, 0, 0, 0, 1, 1, 1, 1, 2, 2, 2, 2, 2}, h, 0)
	h.Guests[2].C.Pc = 1
	want := cloned(h)
	want.Guests[2].C.Timer, want.Guests[2].C.Pc, want.Guests[2].C.Regs[2] = 2, 1, 66
	checkRunAs(t, "ticks of one", h, []int{0, 2, 0, 1, 2, 1, 0}, want, 2)
}

// Frames that two guests have are copied for the first one that writes; the other one is alone in it then, and needs no copy.
func TestHostRunOfGuestsThatShareAFrameByHand(t *testing.T) {
	shared := func(free int) impl.Host {
		h := writersHost(free)
		h.Guests[0].Pages[1], h.Guests[2].Pages[1] = impl.Slot{Frame: 5}, impl.Slot{Frame: 5}
		h.Guests[0].Pages[4] = impl.Slot{Frame: -1}
		return h
	}
	own := func(h impl.Host, g int, frame int) impl.Host {
		words := slices.Clone(h.Words[5*8 : 6*8])
		h = wrote(h, g, frame, 0)
		copy(h.Words[frame*8:], words)
		h.Words[frame*8+g] = 66
		return h
	}
	none, one := shared(0), shared(1)
	checkRunAs(t, "no frame for a copy", none, []int{0, 2, 1, 2, 0}, none, 0)
	checkRunAs(t, "one copy for two", one, []int{0, 2, 1}, own(own(one, 0, 19), 2, 5), 2)
	checkRunAs(t, "one copy for two, in another order", one, []int{2, 1, 0}, own(own(one, 2, 19), 0, 5), 2)
	checkRunAs(t, "the last frame for another one", one, []int{1, 0, 2, 0}, wrote(one, 1, 19, 0), 1)
}

// wantRun does the steps one by one in the second way that steps are done, and tells how many of them each guest did.
func wantRun(h impl.Host, turns []int) (impl.Host, [3]int) {
	own, steps := cloned(h), [3]int{}
	for _, g := range turns {
		if !isThere(own, g) {
			continue
		}
		then, ok := wantGuestStep(own, g)
		if ok {
			steps[g]++
			own = then
		}
	}
	return own, steps
}

func sumOf(steps [3]int) int {
	return steps[0] + steps[1] + steps[2]
}

// mixedTurns has turns that follow from the seed alone; about one of eight is that of no guest's number.
func mixedTurns(seed int, many int) []int {
	d := &dice{seed}
	turns := []int{}
	for len(turns) < many {
		g := d.roll(3)
		if d.roll(6) == 0 {
			g = numbersOfGuests()[d.roll(len(numbersOfGuests()))]
		}
		turns = append(turns, g)
	}
	return turns
}

// knownHosts has hosts for many turns of all guests: with enough frames and too few, with frames that guests share, and with guests in each other's tables.
func knownHosts(t *testing.T) []impl.Host {
	t.Helper()
	return []impl.Host{
		tagHost(), entangledHost(34), entangledHost(41), entangledHost(7), writersHost(0), writersHost(1), writersHost(2), writersHost(3),
		bootedHost(t, []impl.Bare{busyBare(), startedBare(5), walkerBare()}),
		bootedHost(t, []impl.Bare{walkerBare(), walkerBare(), walkerBare()}),
		bootedHost(t, []impl.Bare{mixedBare(3), tabledBare(true), pagedBare(1, 2)}),
		sharedHost(t, busyBare()), sharedHost(t, startedBare(9)), sharedHost(t, walkerBare()),
	}
}

// runHosts has hosts of all kinds, many of them with few free frames or none.
func runHosts(t *testing.T) []impl.Host {
	t.Helper()
	list := slices.Concat(knownHosts(t), givenHosts(), busyReaches())
	for k, h := range busyReaches() {
		list = append(list, crowded(h, 1, 1, k%2))
	}
	for k, r := range reaches() {
		if k%60 == 0 {
			list = append(list, crowded(reachHost(r, k/60%3, k/180%8), k/60%3, k/180%8, k/120%2))
		}
	}
	for _, h := range mixedHosts()[:40] {
		list = append(list, unwritten(h))
	}
	return list
}

func TestHostRunOfManyHosts(t *testing.T) {
	done, passed, gone := 0, 0, 0
	for seed, h := range runHosts(t) {
		turns := mixedTurns(seed, []int{12, 40, 90}[seed%3])
		want, steps := wantRun(h, turns)
		checkRunAs(t, "many turns", h, turns, want, sumOf(steps))
		done += sumOf(steps)
		for g := range h.Guests {
			if !isThere(h, g) {
				gone += impl.TurnsOf(turns, g)
			} else {
				passed += impl.TurnsOf(turns, g) - steps[g]
			}
		}
	}
	if done < 1000 || passed < 100 || gone < 100 {
		t.Errorf("%d turns were done, %d lacked a frame, %d were of guests that are gone", done, passed, gone)
	}
}

func TestHostRunOfAsManyTurnsAsMay(t *testing.T) {
	for seed, h := range append(knownHosts(t), givenHosts()[:12]...) {
		turns := mixedTurns(seed+7, 200)
		want, steps := wantRun(h, turns)
		checkRunAs(t, "200 turns", h, turns, want, sumOf(steps))
	}
}

func TestHostRunInTwoParts(t *testing.T) {
	for seed, h := range runHosts(t) {
		turns := mixedTurns(seed+3, 60)
		whole, many := impl.HostRun(h, turns)
		for _, at := range []int{0, 1, 20 + seed%20, 59, 60} {
			first, done := impl.HostRun(h, turns[:at])
			second, more := impl.HostRun(first, turns[at:])
			if done+more != many {
				t.Fatalf("in two parts, at %d, %d and %d turns are done, and %d in one", at, done, more, many)
			}
			checkSame(t, "a host behind turns in two parts", second, whole)
		}
	}
}

// Turns of guests that are not there can be left out: nothing else of the answer turns.
func TestHostRunWithoutTheTurnsOfNobody(t *testing.T) {
	for seed, h := range runHosts(t) {
		turns := mixedTurns(seed+5, 50)
		left := slices.DeleteFunc(slices.Clone(turns), func(g int) bool { return !isThere(h, g) })
		want, many := impl.HostRun(h, left)
		checkRunAs(t, "turns of nobody", h, turns, want, many)
	}
}

func viewsOf(h impl.Host) []impl.Bare {
	list := []impl.Bare{}
	for g := range h.Guests {
		b, _ := impl.HostView(h, g)
		list = append(list, b)
	}
	return list
}

// stepsDone tells how many turns of each guest are done when each is a step.
func stepsDone(h impl.Host, turns []int) [3]int {
	steps := [3]int{}
	for _, g := range turns {
		then, ok := impl.HostStep(h, g)
		if ok {
			steps[g]++
			h = then
		}
	}
	return steps
}

// checkAlone looks whether each guest behind turns is what its machine is alone after as many steps, and tells whether all turns of guests that are there were done.
func checkAlone(t *testing.T, h impl.Host, turns []int) bool {
	t.Helper()
	then, many := impl.HostRun(h, turns)
	if !impl.HostOk(then) {
		t.Fatalf("behind the turns %v it is no host: %+v", turns, then)
	}
	steps, asked := stepsDone(h, turns), 0
	for g, b := range viewsOf(h) {
		seen, there := impl.HostView(then, g)
		if there != isThere(h, g) {
			t.Fatalf("guest %d is there behind the turns %v: %v", g, turns, there)
		}
		if !there {
			continue
		}
		asked += impl.TurnsOf(turns, g)
		if steps[g] > impl.TurnsOf(turns, g) {
			t.Fatalf("guest %d did %d steps by the turns %v", g, steps[g], turns)
		}
		checkBare(t, "a guest behind turns", seen, impl.BareRun(b, steps[g]))
	}
	if many != sumOf(steps) {
		t.Fatalf("of the turns %v %d were done, not %d", turns, many, sumOf(steps))
	}
	return many == asked
}

// checkAllAlone asks for as many steps of each guest as it has turns.
func checkAllAlone(t *testing.T, h impl.Host, turns []int) {
	t.Helper()
	then, many := impl.HostRun(h, turns)
	if many != len(turns) {
		t.Fatalf("of the turns %v only %d were done", turns, many)
	}
	for g, b := range viewsOf(h) {
		seen, _ := impl.HostView(then, g)
		checkBare(t, "a guest behind its turns", seen, impl.BareRun(b, impl.TurnsOf(turns, g)))
	}
}

// roomyHosts has hosts on which no frame is missing, whatever their guests do.
func roomyHosts(t *testing.T) []impl.Host {
	t.Helper()
	list := []impl.Host{countersHost(t), writersHost(3), sharedHost(t, counterBare())}
	for _, row := range [][]impl.Bare{
		{busyBare(), startedBare(5), walkerBare()},
		{busyBare(), busyBare(), busyBare()},
		{mixedBare(3), tabledBare(true), pagedBare(1, 2)},
	} {
		list = append(list, bootedHost(t, row))
	}
	return append(list, sharedHost(t, busyBare()))
}

// manyTurns has rows of turns: of one guest alone, of one behind the other in each order, by turns, and in no order.
func manyTurns(most int) [][]int {
	rows := [][]int{{}, {0}, {1}, {2}}
	for _, order := range ordersOf([3]int{1, 1, 1}) {
		row := []int{}
		for _, g := range order {
			row = append(row, slices.Repeat([]int{g}, most/3)...)
		}
		rows = append(rows, row, slices.Repeat(order, most/3))
	}
	for g := 0; g < 3; g++ {
		rows = append(rows, slices.Repeat([]int{g}, most), slices.Repeat([]int{g, g, (g + 1) % 3, g, (g + 2) % 3}, most/5))
	}
	for seed := 1; seed <= 6; seed++ {
		row, d := []int{}, &dice{seed}
		for len(row) < most {
			row = append(row, d.roll(3))
		}
		rows = append(rows, row)
	}
	return rows
}

// ordersOf has all orders of so many turns of each guest.
func ordersOf(left [3]int) [][]int {
	if sumOf(left) == 0 {
		return [][]int{{}}
	}
	list := [][]int{}
	for g := range left {
		if left[g] == 0 {
			continue
		}
		rest := left
		rest[g]--
		for _, order := range ordersOf(rest) {
			list = append(list, append([]int{g}, order...))
		}
	}
	return list
}

func TestP17WhateverTheOrderOfTurnsEachGuestIsAsIfItWereAlone(t *testing.T) {
	for _, h := range roomyHosts(t) {
		for _, most := range []int{15, 200} {
			for _, turns := range manyTurns(most) {
				checkAllAlone(t, h, turns)
			}
		}
	}
}

func TestP17AllGuestsInEveryOrder(t *testing.T) {
	for _, h := range roomyHosts(t) {
		for _, left := range [][3]int{{1, 1, 1}, {2, 2, 2}, {3, 2, 1}, {0, 3, 3}, {1, 0, 5}, {4, 1, 1}} {
			orders := ordersOf(left)
			first, _ := impl.HostRun(h, orders[0])
			for _, turns := range orders {
				checkAllAlone(t, h, turns)
				then, _ := impl.HostRun(h, turns)
				checkSameViews(t, "the order of turns", first, then, -1)
			}
		}
	}
	if many := len(ordersOf([3]int{2, 2, 2})); many != 90 {
		t.Errorf("of two turns of each guest there are %d orders", many)
	}
}

func TestP17OneGuestAlone(t *testing.T) {
	for _, h := range runHosts(t) {
		for _, g := range guestsOf(h) {
			for _, many := range []int{1, 2, 30, 200} {
				turns := slices.Repeat([]int{g}, many)
				checkAlone(t, h, turns)
				then, _ := impl.HostRun(h, turns)
				checkSameViews(t, "turns of one guest", h, then, g)
			}
		}
	}
}

// Each guest ends where it ends on a host on which no other one was, when only its own turns are left.
func TestP17NobodyElseIsThere(t *testing.T) {
	compared := 0
	for seed, h := range append(roomyHosts(t), runHosts(t)...) {
		turns := mixedTurns(seed+11, 80)
		if !checkAlone(t, h, turns) {
			continue
		}
		then, _ := impl.HostRun(h, turns)
		for _, g := range guestsOf(h) {
			alone := h
			for _, other := range guestsOf(h) {
				if other != g {
					alone = dropped(t, alone, other)
				}
			}
			own, many := impl.HostRun(alone, slices.Repeat([]int{g}, impl.TurnsOf(turns, g)))
			if many != impl.TurnsOf(turns, g) {
				t.Fatalf("alone guest %d did %d steps of %d", g, many, impl.TurnsOf(turns, g))
			}
			seen, _ := impl.HostView(then, g)
			want, _ := impl.HostView(own, g)
			checkBare(t, "a guest among others", seen, want)
			compared++
		}
	}
	if compared < 100 {
		t.Errorf("only %d guests were compared", compared)
	}
}

func TestP17InAnyCaseItIsSoForSomeSteps(t *testing.T) {
	whole, part := 0, 0
	for seed, h := range runHosts(t) {
		for k, most := range []int{9, 60, 200} {
			if checkAlone(t, h, mixedTurns(seed*3+k, most)) {
				whole++
			} else {
				part++
			}
		}
	}
	if min(whole, part) < 50 {
		t.Errorf("all turns were done %d times, and not all of them %d times", whole, part)
	}
}

// Three guests that write all their pages need 24 frames: behind the last one some of them do not go on, and those that need none do.
func TestP17HostsThatBecomeFullInTheMiddle(t *testing.T) {
	list := []impl.Host{bootedHost(t, []impl.Bare{walkerBare(), walkerBare(), walkerBare()}), sharedHost(t, walkerBare())}
	for free := 0; free < 3; free++ {
		list = append(list, writersHost(free))
	}
	later := 0
	for _, h := range list {
		for _, turns := range manyTurns(200) {
			checkAlone(t, h, turns)
			lacked := false
			for _, g := range turns {
				then, ok := impl.HostStep(h, g)
				lacked = lacked || !ok
				if ok && lacked {
					later++
				}
				h = then
			}
		}
	}
	if later < 1000 {
		t.Errorf("only %d turns were done behind one that lacked a frame", later)
	}
}

// Who is gone has no turns, all others go on; and who comes in its place begins as a machine of its own.
func TestP17GuestsThatGoAndCome(t *testing.T) {
	for seed, h := range roomyHosts(t) {
		for _, g := range guestsOf(h) {
			h, _ = impl.HostRun(h, mixedTurns(seed+g, 40))
			without := dropped(t, h, g)
			checkAlone(t, without, mixedTurns(seed+g+1, 90))
			then, many := impl.HostRun(without, slices.Repeat([]int{g}, 50))
			if many != 0 {
				t.Fatalf("%d turns of guest %d, which is gone, were done", many, g)
			}
			checkSame(t, "a host behind turns of a guest that is gone", then, without)
			again, at, ok := impl.HostBoot(without, counterBare())
			if !ok || at != g {
				t.Fatalf("in the place of guest %d comes %d, %v", g, at, ok)
			}
			if !checkAlone(t, again, mixedTurns(seed+g+2, 90)) {
				t.Fatalf("a frame is missing on %+v", again)
			}
			behind, _ := impl.HostRun(again, []int{g, g, g})
			if behind.Guests[g].C.Regs[1] != 2 {
				t.Fatalf("who came in the place of guest %d is %+v", g, behind.Guests[g])
			}
			h = again
		}
	}
}

func TestP17TurnsByWeights(t *testing.T) {
	for _, h := range roomyHosts(t) {
		for _, weights := range [][]int{{1}, {0, 1}, {3, 2}, {1, 1, 1}, {9, 8, 7}, {0, 9, 1}, {2, 0, 5}, {0, 0, 9}} {
			for _, many := range []int{1, 17, 200} {
				checkAllAlone(t, h, impl.FairTurns(weights, many))
			}
		}
	}
}

func checkTurnsOf(t *testing.T, turns []int, g int, want int) {
	t.Helper()
	if got := impl.TurnsOf(turns, g); got != want {
		t.Fatalf("of %v %d are turns of %d, not %d", turns, got, g, want)
	}
}

func TestTurnsOfByHand(t *testing.T) {
	turns := []int{0, 1, 0, 0, -1, 3, 1, 0, 3, math.MaxInt, math.MinInt, 3}
	for _, c := range [][2]int{
		{0, 4}, {1, 2}, {2, 0}, {3, 3}, {4, 0}, {-1, 1}, {-2, 0}, {-3, 0}, {math.MaxInt, 1}, {math.MinInt, 1}, {1 << 32, 0},
	} {
		checkTurnsOf(t, turns, c[0], c[1])
	}
	for _, g := range numbersOfGuests() {
		checkTurnsOf(t, nil, g, 0)
		checkTurnsOf(t, []int{}, g, 0)
		checkTurnsOf(t, []int{g}, g, 1)
		checkTurnsOf(t, []int{g + 1, g + 2}, g, 0)
		for _, many := range []int{2, 199, 200, 201, 300, 1000} {
			checkTurnsOf(t, slices.Repeat([]int{g}, many), g, many)
			checkTurnsOf(t, slices.Repeat([]int{g, g + 1}, many), g, many)
			checkTurnsOf(t, slices.Repeat([]int{g + 1}, many), g, 0)
		}
	}
}

// rowsOfTurns has turns of all numbers, some of them more than may be run.
func rowsOfTurns() [][]int {
	rows := append(manyTurns(15), nil, slices.Repeat([]int{2}, 201))
	for seed := 1; seed <= 40; seed++ {
		rows = append(rows, mixedTurns(seed, seed*7))
	}
	return rows
}

func TestP62TurnsInTwoPartsAreAllTurns(t *testing.T) {
	rows := rowsOfTurns()
	for k, row := range rows {
		other := rows[(k*5+3)%len(rows)]
		for _, g := range numbersOfGuests() {
			many := impl.TurnsOf(row, g)
			for at := 0; at <= len(row); at++ {
				checkTurnsOf(t, row, g, impl.TurnsOf(row[:at], g)+impl.TurnsOf(row[at:], g))
			}
			checkTurnsOf(t, slices.Concat(row, other), g, many+impl.TurnsOf(other, g))
			checkTurnsOf(t, slices.Concat(other, row), g, many+impl.TurnsOf(other, g))
			checkTurnsOf(t, append(slices.Clone(row), g), g, many+1)
			checkTurnsOf(t, append([]int{g}, row...), g, many+1)
		}
	}
}

func TestP62TheOrderDoesNotMatter(t *testing.T) {
	for seed, row := range rowsOfTurns() {
		turned := slices.Clone(row)
		slices.Reverse(turned)
		sorted := slices.Sorted(slices.Values(row))
		mixed, d := []int{}, &dice{seed}
		for k, g := range row {
			mixed = slices.Insert(mixed, d.roll(k+1), g)
		}
		all := 0
		for _, g := range slices.Compact(slices.Clone(sorted)) {
			many := impl.TurnsOf(row, g)
			for _, other := range [][]int{turned, sorted, mixed} {
				checkTurnsOf(t, other, g, many)
			}
			all += many
		}
		if all != len(row) {
			t.Fatalf("of %v %d are turns of somebody", row, all)
		}
	}
	for _, left := range [][3]int{{2, 2, 2}, {5, 0, 1}, {0, 4, 2}} {
		for _, order := range ordersOf(left) {
			for g := range left {
				checkTurnsOf(t, order, g, left[g])
			}
		}
	}
}

func checkFair(t *testing.T, weights []int, many int, want []int) {
	t.Helper()
	if got := impl.FairTurns(weights, many); !slices.Equal(got, want) {
		t.Fatalf("by the weights %v %d turns are %v, not %v", weights, many, got, want)
	}
}

func TestFairTurnsByHand(t *testing.T) {
	nine := slices.Repeat([]int{0}, 9)
	cases := []struct {
		weights []int
		turns   []int
	}{
		{[]int{1}, []int{0, 0, 0, 0}},
		{[]int{9}, []int{0, 0, 0, 0}},
		{[]int{0, 1}, []int{1, 1, 1, 1}},
		{[]int{0, 0, 1}, []int{2, 2, 2, 2}},
		{[]int{5, 0, 0}, []int{0, 0, 0, 0}},
		{[]int{1, 1}, []int{0, 1, 0, 1, 0, 1}},
		{[]int{7, 7}, []int{0, 1, 0, 1, 0, 1}},
		{[]int{1, 1, 1}, []int{0, 1, 2, 0, 1, 2, 0}},
		{[]int{9, 9, 9}, []int{0, 1, 2, 0, 1, 2, 0}},
		{[]int{4, 0, 4}, []int{0, 2, 0, 2, 0, 2}},
		{[]int{2, 1}, []int{0, 1, 0, 0, 1, 0}},
		{[]int{1, 2}, []int{0, 1, 1, 0, 1, 1}},
		{[]int{4, 2}, []int{0, 1, 0, 0, 1, 0}},
		{[]int{3, 2}, []int{0, 1, 0, 1, 0, 0, 1, 0, 1, 0}},
		{[]int{2, 3}, []int{0, 1, 1, 0, 1, 0, 1, 1, 0, 1}},
		{[]int{2, 0, 3}, []int{0, 2, 2, 0, 2, 0, 2, 2, 0, 2}},
		{[]int{3, 1, 2}, []int{0, 1, 2, 0, 2, 0, 0, 1, 2, 0, 2, 0}},
		{[]int{1, 2, 3}, []int{0, 1, 2, 2, 1, 2, 0, 1, 2, 2, 1, 2}},
		{[]int{9, 1}, slices.Concat([]int{0, 1}, nine, []int{1}, nine, []int{1, 0})},
		{[]int{9, 8}, []int{0, 1, 0, 1, 0, 1, 0, 1, 0, 1, 0, 1, 0, 1, 0, 1, 0, 0, 1}},
		{[]int{8, 9}, []int{0, 1, 1, 0, 1, 0, 1, 0, 1, 0, 1, 0, 1, 0, 1, 0, 1, 0, 1, 1}},
	}
	for _, c := range cases {
		for many := range c.turns {
			checkFair(t, c.weights, many, c.turns[:many])
		}
		checkFair(t, c.weights, len(c.turns), c.turns)
	}
}

// allWeights has all weights of none up to three guests.
func allWeights() [][]int {
	list := [][]int{{}}
	for from := 0; from < len(list) && len(list[from]) < 3; from++ {
		for weight := 0; weight <= 9; weight++ {
			list = append(list, append(slices.Clone(list[from]), weight))
		}
	}
	return list
}

// wantFair measures turns in 2520th parts, which all weights divide, so that quotients are whole.
func wantFair(weights []int, many int) []int {
	turns, parts := []int{}, []int{}
	for range weights {
		parts = append(parts, 0)
	}
	for len(turns) < many {
		least := math.MaxInt
		for g, weight := range weights {
			if weight > 0 {
				least = min(least, parts[g])
			}
		}
		for g, weight := range weights {
			if weight > 0 && parts[g] == least {
				turns = append(turns, g)
				parts[g] += 2520 / weight
				break
			}
		}
		if least == math.MaxInt {
			return nil
		}
	}
	return turns
}

func TestFairTurnsOfAllWeights(t *testing.T) {
	for _, weights := range allWeights() {
		want := wantFair(weights, 200)
		for _, many := range []int{0, 1, 2, 3, 10, 199, 200} {
			checkFair(t, weights, many, want[:min(many, len(want))])
		}
	}
	if many := len(allWeights()); many != 1111 {
		t.Errorf("there are %d rows of weights", many)
	}
}

func TestFairTurnsOfAllNumbersOfTurns(t *testing.T) {
	for _, weights := range [][]int{{1}, {3, 1}, {2, 7, 5}, {0, 9, 8}} {
		for many := -3; many <= 210; many++ {
			want := []int{}
			if isIn(many, 200) {
				want = wantFair(weights, many)
			}
			checkFair(t, weights, many, want)
		}
		for _, many := range []int{math.MinInt, -200, 256, 300, 1 << 32, math.MaxInt} {
			checkFair(t, weights, many, nil)
		}
	}
}

func TestFairTurnsWithoutAnyWeight(t *testing.T) {
	for _, weights := range [][]int{nil, {}, {0}, {0, 0}, {0, 0, 0}} {
		for _, many := range []int{-1, 0, 1, 199, 200, 201} {
			checkFair(t, weights, many, nil)
		}
	}
}

func TestFairTurnsOfOthers(t *testing.T) {
	for many := 0; many <= 3; many++ {
		for at := 0; at < many; at++ {
			for _, weight := range []int{math.MinInt, -10, -9, -2, -1, 10, 11, 18, 256, 1 << 32, math.MaxInt} {
				weights := slices.Repeat([]int{1}, many)
				weights[at] = weight
				checkFair(t, weights, 20, nil)
			}
		}
	}
	for _, many := range []int{4, 5, 6, 20, 1000} {
		checkFair(t, slices.Repeat([]int{1}, many), 20, nil)
		checkFair(t, append([]int{1}, make([]int, many-1)...), 20, nil)
		checkFair(t, append(make([]int, many-1), 1), 20, nil)
	}
}

// checkNotBehind looks at each two guests at each time, in between, too.
func checkNotBehind(t *testing.T, weights []int, turns []int) {
	t.Helper()
	had := make([]int, len(weights))
	for time := 0; time <= len(turns); time++ {
		for one, weight := range weights {
			for other, otherWeight := range weights {
				if had[one]*otherWeight > (had[other]+1)*weight+otherWeight {
					t.Fatalf("by the weights %v guest %d is far behind guest %d after %d turns: %v", weights, other, one, time, had)
				}
			}
		}
		if time < len(turns) {
			had[turns[time]]++
		}
	}
	for g := range had {
		checkTurnsOf(t, turns, g, had[g])
	}
}

func TestP18NobodyIsFarBehind(t *testing.T) {
	for _, weights := range allWeights() {
		turns := impl.FairTurns(weights, 200)
		isAnyone := slices.ContainsFunc(weights, func(weight int) bool { return weight > 0 })
		if isAnyone && len(turns) != 200 || !isAnyone && len(turns) != 0 {
			t.Fatalf("by the weights %v there are %d turns", weights, len(turns))
		}
		checkNotBehind(t, weights, turns)
	}
}

// At the time of a turn nobody had less, divided by the weight; so each one is less than a turn of its own ahead of any other one.
func TestP18EachTurnGoesToOneThatHadLeast(t *testing.T) {
	for _, weights := range allWeights() {
		had := make([]int, len(weights))
		for _, g := range impl.FairTurns(weights, 200) {
			for other, weight := range weights {
				isLess := had[other]*weights[g] < had[g]*weight
				isTie := other < g && had[other]*weights[g] == had[g]*weight
				if weights[g] == 0 || weight > 0 && (isLess || isTie) {
					t.Fatalf("by the weights %v guest %d has a turn after %v, and not guest %d", weights, g, had, other)
				}
			}
			had[g]++
		}
	}
}

// When as many turns are over as all weights together, each guest had its weight in turns, and it begins again.
func TestP18TurnsOfAWholeRound(t *testing.T) {
	for _, weights := range allWeights() {
		all := 0
		for _, weight := range weights {
			all += weight
		}
		if all == 0 {
			continue
		}
		round := impl.FairTurns(weights, all)
		for g, weight := range weights {
			checkTurnsOf(t, round, g, weight)
		}
		checkFair(t, weights, 200, slices.Repeat(round, 200/all+1)[:200])
	}
}

// Guests without a weight can be left out, and only how weights are to each other matters.
func TestFairTurnsOfWeightsThatAreAlike(t *testing.T) {
	for a := 1; a <= 9; a++ {
		for b := 1; b <= 9; b++ {
			two := impl.FairTurns([]int{a, b}, 150)
			for gone := 0; gone < 3; gone++ {
				shifted := slices.Clone(two)
				for k, g := range two {
					if g >= gone {
						shifted[k]++
					}
				}
				checkFair(t, slices.Insert([]int{a, b}, gone, 0), 150, shifted)
			}
			for times := 2; times*max(a, b) <= 9; times++ {
				checkFair(t, []int{times * a, times * b}, 150, two)
			}
		}
	}
}

// checkTurnsApart looks whether a host behind turns is new memory, and what was given is as it was.
func checkTurnsApart(t *testing.T, h impl.Host, row []int) {
	t.Helper()
	given, turns := clonedWithRoom(h), clonedWithRoom(row)
	before := wholeOf(given, turns)
	then, _ := impl.HostRun(given, turns)
	checkNewMemory(t, "a host behind turns", then, given, turns)
	again, _ := impl.HostRun(given, turns)
	checkNewMemory(t, "a host behind turns", again, given, turns, then)
	if !slices.Equal(wholeOf(given, turns), before) {
		t.Fatalf("a host or turns were written to: %+v, %v", h, row)
	}
}

func TestHostsBehindTurnsAreNewMemory(t *testing.T) {
	for seed, h := range slices.Concat(apartHosts(), knownHosts(t), busyReaches()) {
		for _, turns := range [][]int{nil, {}, {0}, {1}, {2}, {-1}, {3, -1}, mixedTurns(seed, 40)} {
			checkTurnsApart(t, h, turns)
		}
	}
	for _, h := range []impl.Host{writersHost(0), writersHost(1), stoppedHost()} {
		for _, turns := range append(manyTurns(12), make([]int, 201)) {
			checkTurnsApart(t, h, turns)
		}
	}
	for k, h := range brokenHosts() {
		if k%13 == 0 {
			checkTurnsApart(t, h, []int{0, 1, 2})
		}
	}
}

// The turns of this host stand in its own words, and its guests' lists share memory; what a guest writes comes to none of them.
func TestTurnsOfListsThatShareMemory(t *testing.T) {
	for w := 0; w <= 4095; w += 5 {
		h := hostOfOneRow()
		copy(h.Words[100:], []int{1, 0, 2, 1, 1, 0, 3, 0})
		copy(h.Words[89:], []int{w, (w*7 + 5) % 4096})
		for g := 0; g < 2; g++ {
			h.Guests[g].C.Pc = 17
		}
		turns := h.Words[100:108]
		before := cloned(h)
		want, steps := wantRun(before, []int{1, 0, 2, 1, 1, 0, 3, 0})
		checkRunAs(t, "turns in words", h, turns, want, sumOf(steps))
		then, _ := impl.HostRun(h, turns)
		checkNewMemory(t, "a host behind turns", then, h)
		checkSame(t, "the host that was given", h, before)
	}
}

func TestTurnsAreNewMemory(t *testing.T) {
	for _, weights := range append(allWeights(), nil, []int{1, 1, 1, 1}, []int{-1, 3}, []int{2, 10}) {
		given := clonedWithRoom(weights)
		before := wholeOf(given)
		for _, many := range []int{-1, 0, 1, 3, 17, 200, 201} {
			turns := impl.FairTurns(given, many)
			checkNewMemory(t, "turns", turns, given, impl.FairTurns(given, many))
			whole := wholeOf(turns)
			impl.TurnsOf(turns, 0)
			if !slices.Equal(wholeOf(turns), whole) {
				t.Fatalf("turns were written to: %v", turns)
			}
		}
		if !slices.Equal(wholeOf(given), before) {
			t.Fatalf("weights were written to: %v", weights)
		}
	}
}
