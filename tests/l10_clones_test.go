package tests

import (
	"math"
	"slices"
	"testing"

	"loop.example/guesthouse/impl"
)

// cloneCase has guests as drawnHost draws them, before one of them is cloned and behind it; the clone has the core and the words in and out of the other one.
type cloneCase struct {
	name   string
	before [3]string
	g      int
	at     int
	behind [3]string
}

const letters = "abcdefghijklmnopqrst"

func (c cloneCase) want() impl.Host {
	h := drawnHost(letters, c.behind)
	h.Guests[c.at] = guestAs([]impl.Bare{plainBare(), busyBare(), mixedBare(3)}[c.g], drawnSlots(c.behind[c.at]))
	return h
}

func checkClone(t *testing.T, name string, h impl.Host, g int, want impl.Host, wantAt int) {
	t.Helper()
	if !impl.HostOk(h) {
		t.Fatalf("%s: it is no host: %+v", name, h)
	}
	got, at, ok := impl.HostClone(h, g)
	if at != wantAt || ok != (wantAt >= 0) {
		t.Fatalf("%s: the clone is guest %d, %v, and not %d", name, at, ok, wantAt)
	}
	checkSame(t, name+": a host behind cloning", got, want)
}

func TestHostCloneByHand(t *testing.T) {
	cases := []cloneCase{
		{"one that may write", [3]string{"0w"}, 0, 1, [3]string{"0", "0"}},
		{"one that may not write", [3]string{"0"}, 0, 1, [3]string{"0", "0"}},
		{"one that is Dirty", [3]string{"0wd"}, 0, 1, [3]string{"0d", "0"}},
		{"one that is Dirty, and may not write", [3]string{"0d"}, 0, 1, [3]string{"0d", "0"}},
		{"one without frames", [3]string{"-"}, 0, 1, [3]string{"-", "-"}},
		{"pages of all kinds", [3]string{"4w 3wd - 0 1d - 19w"}, 0, 1, [3]string{"4 3d - 0 1d - 19", "4 3 - 0 1 - 19"}},
		{"the last page alone", [3]string{"- - - - - - - 7wd"}, 0, 1, [3]string{"- - - - - - - 7d", "- - - - - - - 7"}},
		{"guest 1 alone", [3]string{"", "0w 2wd 5"}, 1, 0, [3]string{"0 2 5", "0 2d 5"}},
		{"guest 2 alone", [3]string{"", "", "0w - 2wd 5d"}, 2, 0, [3]string{"0 - 2 5", "", "0 - 2d 5d"}},
		{"the first one before one that is gone", [3]string{"0w 1wd", "2w 3wd"}, 0, 2, [3]string{"0 1d", "2w 3wd", "0 1"}},
		{"the second one before one that is gone", [3]string{"0w 1wd", "2w 3wd"}, 1, 2, [3]string{"0w 1wd", "2 3d", "2 3"}},
		{"the first one around one that is gone", [3]string{"0w 1wd", "", "2w 3wd"}, 0, 1, [3]string{"0 1d", "0 1", "2w 3wd"}},
		{"the last one around one that is gone", [3]string{"0w 1wd", "", "2w 3wd"}, 2, 1, [3]string{"0w 1wd", "2 3", "2 3d"}},
		{"the second one behind one that is gone", [3]string{"", "0w 1wd", "2w 3wd"}, 1, 0, [3]string{"0 1", "0 1d", "2w 3wd"}},
		{"the last one behind one that is gone", [3]string{"", "0w 1wd", "2w 3wd"}, 2, 0, [3]string{"2 3", "0w 1wd", "2 3d"}},
		{"a frame of two pages of its own", [3]string{"6 6d 7w"}, 0, 1, [3]string{"6 6d 7", "6 6 7"}},
		{"a frame that another one has", [3]string{"6 7w", "", "- 6d"}, 0, 1, [3]string{"6 7", "6 7", "- 6d"}},
		{"a Dirty page in a frame that another one has", [3]string{"6 7w", "", "8w 6d"}, 2, 1, [3]string{"6 7w", "8 6", "8 6d"}},
		{"one without frames beside others", [3]string{"0w 1wd", "- -"}, 1, 2, [3]string{"0w 1wd", "- -", "- -"}},
		{"one beside others without frames", [3]string{"- -", "0w 1wd"}, 1, 2, [3]string{"- -", "0 1d", "0 1"}},
		{
			"all pages of two in frames of their own", [3]string{"19w 18w 17w 16w 15w 14w 13w 12w", "", "0wd 1wd 2wd 3wd 4wd 5wd 6wd 7wd"},
			2, 1, [3]string{"19w 18w 17w 16w 15w 14w 13w 12w", "0 1 2 3 4 5 6 7", "0d 1d 2d 3d 4d 5d 6d 7d"},
		},
		{
			"all pages of two in one frame", [3]string{"", "5 5d 5 5d 5 5d 5 5d", "5 5 5d 5d 5d 5 5 5"},
			1, 0, [3]string{"5 5 5 5 5 5 5 5", "5 5d 5 5d 5 5d 5 5d", "5 5 5d 5d 5d 5 5 5"},
		},
	}
	for _, c := range cases {
		checkClone(t, c.name, drawnHost(letters, c.before), c.g, c.want(), c.at)
	}
}

func TestHostCloneOfClonesByHand(t *testing.T) {
	h := drawnHost(letters, [3]string{"0w 1wd - 2d"})
	two := cloneCase{g: 0, at: 1, behind: [3]string{"0 1d - 2d", "0 1 - 2"}}.want()
	checkClone(t, "the first clone", h, 0, two, 1)
	three := cloned(two)
	three.Guests[2] = cloned(two.Guests[1])
	checkClone(t, "a clone of the clone", two, 1, three, 2)
	// A clone is not Dirty, so that of a clone and that of the first one are alike.
	checkClone(t, "another clone of the first one", two, 0, three, 2)
	alone := dropped(t, two, 0)
	back := withGuest(alone, 0, two.Guests[1])
	checkClone(t, "a clone of the clone in the place of the first one", alone, 1, back, 0)
	for g := -1; g <= 3; g++ {
		checkClone(t, "a fourth one", three, g, impl.Host{}, -1)
	}
}

// Behind a clone the pages of both are written: who is the first one gets a copy, and who is left alone in a frame writes there.
func TestHostCloneOfPagesThatAreWrittenByHand(t *testing.T) {
	h := drawnHost(letters, [3]string{"0w 1wd"})
	h, _, _ = impl.HostClone(h, 0)
	own, ok := impl.HostCopy(h, 1, 1)
	want := withSlot(h, 1, 1, impl.Slot{Frame: 2, Write: true})
	copy(want.Words[16:24], want.Words[8:16])
	checkHost(t, "copying a page of the clone", own, ok, want, true)
	own, ok = impl.HostCopy(own, 0, 1)
	checkHost(t, "copying the page of the first one", own, ok, withSlot(want, 0, 1, impl.Slot{Frame: 1, Write: true, Dirty: true}), true)
	own, ok = impl.HostCopy(h, 0, 1)
	want = withSlot(h, 0, 1, impl.Slot{Frame: 2, Write: true, Dirty: true})
	copy(want.Words[16:24], want.Words[8:16])
	checkHost(t, "copying a page of the first one", own, ok, want, true)
	own, ok = impl.HostCopy(own, 1, 1)
	checkHost(t, "copying the page of the clone", own, ok, withSlot(want, 1, 1, impl.Slot{Frame: 1, Write: true}), true)
}

// wantClone puts a guest together from what the other one looks like, and then its frames.
func wantClone(h impl.Host, g int) (impl.Host, int) {
	own := cloned(h)
	at := slices.IndexFunc(h.Guests, func(guest impl.Guest) bool { return !guest.Live })
	if !isThere(h, g) || at == -1 {
		return impl.Host{}, -1
	}
	own.Guests[at] = guestAs(wantView(h, g), noSlots())
	for page, s := range h.Guests[g].Pages {
		own.Guests[g].Pages[page].Write = false
		own.Guests[at].Pages[page].Frame = s.Frame
	}
	return own, at
}

func TestHostCloneOfManyHosts(t *testing.T) {
	done, failed := 0, 0
	for _, h := range sharingHosts() {
		for _, g := range numbersOfGuests() {
			want, at := wantClone(h, g)
			checkClone(t, "many hosts", h, g, want, at)
			switch {
			case at >= 0:
				done++
			case isThere(h, g):
				failed++
			}
		}
	}
	if min(done, failed) < 100 {
		t.Errorf("%d guests were cloned, %d were not, as all were there", done, failed)
	}
}

func TestHostCloneOfGuestsThatAreNotThere(t *testing.T) {
	for there := 0; there < 8; there++ {
		h := emptyHost()
		first := -1
		for g := 2; g >= 0; g-- {
			if there>>g&1 != 0 {
				h.Guests[g] = plainGuest()
			} else {
				first = g
			}
		}
		for _, g := range numbersOfGuests() {
			if !isThere(h, g) {
				checkClone(t, "nobody there", h, g, impl.Host{}, -1)
			} else {
				want := impl.Host{}
				if first >= 0 {
					want = withGuest(h, first, plainGuest())
				}
				checkClone(t, "somebody there", h, g, want, first)
			}
		}
	}
}

func TestHostCloneWhereAllGuestsAreThere(t *testing.T) {
	for _, h := range []impl.Host{fullHost(0), fullHost(1), fullHost(20), crowdedHost(0), stoppedHost(), tagHost(), entangledHost(34)} {
		for _, g := range numbersOfGuests() {
			checkClone(t, "all are there", h, g, impl.Host{}, -1)
		}
	}
}

// All that a core may be is that of the clone, too.
func TestHostCloneOfAllKindsOfMachines(t *testing.T) {
	for _, b := range machines() {
		h, g, ok := impl.HostBoot(emptyHost(), b)
		if !ok {
			t.Fatalf("%+v was not booted", b)
		}
		want, _ := wantClone(h, g)
		checkClone(t, "a machine", h, g, want, 1)
	}
}

// checkSameMachine looks whether cloning is seen in nobody, and takes no frame.
func checkSameMachine(t *testing.T, h impl.Host, g int) (impl.Host, int) {
	t.Helper()
	then, at, ok := impl.HostClone(h, g)
	if !ok || isThere(h, at) || !impl.HostOk(then) {
		t.Fatalf("behind cloning guest %d as %d it is %+v, %v", g, at, then, ok)
	}
	seen, there := impl.HostView(then, at)
	before, _ := impl.HostView(h, g)
	if !there {
		t.Fatalf("the clone %d is not there", at)
	}
	checkBare(t, "a clone", seen, before)
	checkSameViews(t, "cloning", h, then, at)
	if free := impl.HostFree(then); !slices.Equal(free, impl.HostFree(h)) {
		t.Fatalf("%v were free, and behind cloning %v are", impl.HostFree(h), free)
	}
	if !slices.Equal(then.Words, h.Words) {
		t.Fatalf("cloning writes words: %+v, and behind it %+v", h, then)
	}
	return then, at
}

func TestP21ACloneIsTheSameMachine(t *testing.T) {
	kinds := [3]int{}
	for _, h := range sharingHosts() {
		for _, g := range guestsOf(h) {
			if len(guestsOf(h)) == 3 {
				continue
			}
			then, at := checkSameMachine(t, h, g)
			switch {
			case at > g:
				kinds[0]++
			case len(guestsOf(h)) == 1:
				kinds[1]++
			default:
				kinds[2]++
			}
			for _, other := range guestsOf(h) {
				if other != g && !same(then.Guests[other], h.Guests[other]) {
					t.Fatalf("behind cloning guest %d guest %d is another one: %+v", g, other, then)
				}
			}
		}
	}
	if slices.Min(kinds[:]) < 30 {
		t.Errorf("clones come behind, before one alone, and before one of two: %v", kinds)
	}
}

// Neither of both may write behind it; what was Dirty stays so, and the clone is not; and their pages are in the same frames.
func TestP21SlotsBehindCloning(t *testing.T) {
	wrote, dirty, none := 0, 0, 0
	for _, h := range sharingHosts() {
		for _, g := range guestsOf(h) {
			then, at, ok := impl.HostClone(h, g)
			if !ok {
				continue
			}
			for page, s := range h.Guests[g].Pages {
				first, clone := then.Guests[g].Pages[page], then.Guests[at].Pages[page]
				if first.Write || clone.Write || clone.Dirty || first.Dirty != s.Dirty || first.Frame != s.Frame || clone.Frame != s.Frame {
					t.Fatalf("page %d was %+v, and is %+v, and %+v of the clone", page, s, first, clone)
				}
				switch {
				case s.Frame == -1:
					none++
				case s.Write:
					wrote++
				}
				if s.Dirty {
					dirty++
				}
			}
		}
	}
	if min(wrote, dirty, none) < 100 {
		t.Errorf("%d pages could be written, %d were Dirty, %d had no frame", wrote, dirty, none)
	}
}

func TestP21ClonesOfClones(t *testing.T) {
	rows := 0
	for _, h := range sharingHosts() {
		there := guestsOf(h)
		if len(there) != 1 {
			continue
		}
		two, clone := checkSameMachine(t, h, there[0])
		for _, g := range []int{there[0], clone} {
			three, last := checkSameMachine(t, two, g)
			if !same(three.Guests[last], three.Guests[clone]) {
				t.Fatalf("two clones of one guest are not alike: %+v", three)
			}
			// Without the first one, and without the first clone, the others are cloned in its place.
			for _, gone := range guestsOf(three) {
				left := dropped(t, three, gone)
				for _, other := range guestsOf(left) {
					again, at := checkSameMachine(t, left, other)
					if at != gone {
						t.Fatalf("in the place of guest %d comes %d", gone, at)
					}
					checkSameViews(t, "a clone in the place of another one", three, again, -1)
				}
			}
		}
		rows++
	}
	if rows < 50 {
		t.Errorf("only %d guests were cloned twice", rows)
	}
}

// A clone that goes leaves all others as they were, but that the one that was cloned may not write; a copy where it is lets it write again.
func TestP21ClonesThatGo(t *testing.T) {
	for _, h := range sharingHosts() {
		for _, g := range guestsOf(h) {
			then, at, ok := impl.HostClone(h, g)
			if !ok {
				continue
			}
			without := dropped(t, then, at)
			want := cloned(h)
			for page := range want.Guests[g].Pages {
				want.Guests[g].Pages[page].Write = false
			}
			checkSame(t, "a host without the clone", without, want)
			for page, s := range h.Guests[g].Pages {
				if !s.Write {
					continue
				}
				again, ok := impl.HostCopy(without, g, page)
				if !ok || again.Guests[g].Pages[page] != s {
					t.Fatalf("page %d of guest %d was %+v, and is %+v, %v", page, g, s, again.Guests[g].Pages[page], ok)
				}
			}
			checkSameViews(t, "the one that was cloned going", then, dropped(t, then, g), g)
		}
	}
}

// Pages of clones are shared already, and stay so; zeros are taken from both, but for Dirty ones.
func TestP21ClonesThatAreShared(t *testing.T) {
	for _, h := range alikeHosts() {
		for _, g := range guestsOf(h) {
			then, at, ok := impl.HostClone(h, g)
			if !ok {
				continue
			}
			shared := checkNobodyTellsOfSharing(t, then)
			for page, s := range shared.Guests[g].Pages {
				if clone := shared.Guests[at].Pages[page]; clone.Frame != s.Frame || clone.Write || clone.Dirty {
					t.Fatalf("behind sharing page %d is %+v, and %+v of the clone", page, s, clone)
				}
			}
			zeroed := impl.HostZero(then)
			checkSameViews(t, "taking zeros from clones", then, zeroed, -1)
			for page, s := range zeroed.Guests[g].Pages {
				clone := zeroed.Guests[at].Pages[page]
				if clone.Frame != s.Frame && (clone.Frame != -1 || !s.Dirty) {
					t.Fatalf("without zeros page %d is %+v, and %+v of the clone", page, s, clone)
				}
			}
		}
	}
}

// storeBare stores register 1 to 8, in page 1, adds register 2 to it, and begins again.
func storeBare() impl.Bare {
	b := impl.Bare{C: impl.Core{Regs: []int{8, 100, 1, 0}, Root: -1}, Mem: make([]int, 64)}
	program(b.Mem, 0, impl.Ins{Op: impl.OpStore, A: 1, N: 0}, impl.Ins{Op: impl.OpAdd, A: 1, N: 2}, impl.Ins{Op: impl.OpJump, N: 0})
	copy(b.Mem[8:16], []int{1, 2, 3, 4, 5, 6, 7, 8})
	return b
}

// storeHost has guests by storeBare: the first one, which was booted, its clone, and a clone of that one.
func storeHost(t *testing.T) impl.Host {
	t.Helper()
	h, at := bootedHost(t, []impl.Bare{storeBare()}), 0
	for at < 2 {
		then, next, ok := impl.HostClone(h, at)
		if next != at+1 || !ok {
			t.Fatalf("the clone is guest %d, %v", next, ok)
		}
		h, at = then, next
	}
	return h
}

// stored is a host of storeHost behind a guest's store, in a frame.
func stored(h impl.Host, g int, frame int, w int) impl.Host {
	h = cloned(h)
	copy(h.Words[frame*8:], []int{w, 2, 3, 4, 5, 6, 7, 8})
	h.Guests[g].Pages[1] = impl.Slot{Frame: frame, Write: true, Dirty: true}
	h.Guests[g].C.Pc = 1
	return h
}

func TestP23ClonesThatWriteToTheSamePageByHand(t *testing.T) {
	h := storeHost(t)
	for g := 0; g < 3; g++ {
		if e := impl.GuestExit(h, g); e != copyOf(1) {
			t.Fatalf("guest %d leads out by %+v", g, e)
		}
	}
	for _, order := range ordersOf([3]int{1, 1, 1}) {
		want := stored(stored(stored(h, order[0], 2, 100), order[1], 3, 100), order[2], 1, 100)
		checkRunAs(t, "three that write", h, order, want, 3)
	}
	one := stored(h, 2, 2, 100)
	checkRunAs(t, "the last one alone", h, []int{2}, one, 1)
	// Ten steps are four stores, the last of which is that of 103.
	one.Guests[2].C.Regs[1], one.Words[16] = 103, 103
	checkRunAs(t, "the last one alone, again and again", h, slices.Repeat([]int{2}, 10), one, 10)
	for g := 0; g < 2; g++ {
		checkSame(t, "a page of another one", wantView(one, g).Mem, storeBare().Mem)
	}
	// Who comes later begins where it was cloned, with what stood there then.
	checkRunAs(t, "the first one behind it", one, []int{0}, stored(one, 0, 3, 100), 1)
}

func TestP23ClonesOnAFullHostByHand(t *testing.T) {
	full := func(free int) impl.Host {
		h := storeHost(t)
		for k := 0; k < 18-free; k++ {
			h.Guests[k/6].Pages[2+k%6] = impl.Slot{Frame: 2 + k, Write: true}
		}
		return h
	}
	none, one, two := full(0), full(1), full(2)
	checkRunAs(t, "no frame", none, []int{0, 1, 2, 2, 1, 0}, none, 0)
	for _, order := range ordersOf([3]int{1, 1, 1}) {
		checkRunAs(t, "one frame", one, order, stored(one, order[0], 19, 100), 1)
		want := stored(stored(stored(two, order[0], 18, 100), order[1], 19, 100), order[2], 1, 100)
		checkRunAs(t, "two frames", two, order, want, 3)
	}
	// Without one of three the other two need one frame, and it gave some back.
	then, many := impl.HostRun(dropped(t, none, 1), []int{2, 0, 1})
	if many != 2 {
		t.Fatalf("%d turns were done", many)
	}
	checkSame(t, "two that write", then, stored(stored(dropped(t, none, 1), 2, 8, 100), 0, 1, 100))
}

// cloneRuns has hosts with clones, and with clones of clones: of guests that have just been booted, that share pages, that wrote before they were cloned, and that wrote between that; with enough frames whatever they do.
func cloneRuns(t *testing.T) []impl.Host {
	t.Helper()
	list := []impl.Host{}
	for k, b := range []impl.Bare{storeBare(), counterBare(), twinBare(5), tableBare(3), busyBare(), startedBare(5), tabledBare(true)} {
		one := bootedHost(t, []impl.Bare{b})
		two := bootedHost(t, []impl.Bare{twinBare(7), b})
		for _, h := range []impl.Host{one, two} {
			ran, _ := impl.HostRun(h, mixedTurns(k, 30))
			for _, first := range []impl.Host{h, impl.HostShare(h), ran, impl.HostZero(impl.HostShare(ran))} {
				list = append(list, allCloned(t, first, k))
			}
		}
	}
	return list
}

// allCloned clones guests until all are there, with some turns in between.
func allCloned(t *testing.T, h impl.Host, seed int) impl.Host {
	t.Helper()
	for k := seed; len(guestsOf(h)) < 3; k++ {
		there := guestsOf(h)
		then, _, ok := impl.HostClone(h, there[k%len(there)])
		if !ok {
			t.Fatalf("guest %d of %+v was not cloned", there[k%len(there)], h)
		}
		h = then
		if len(guestsOf(h)) < 3 && seed%2 == 1 {
			h, _ = impl.HostRun(h, mixedTurns(seed, 9))
		}
	}
	return h
}

func TestP23EachCloneGoesItsOwnWay(t *testing.T) {
	for _, h := range cloneRuns(t) {
		for _, most := range []int{15, 200} {
			for _, turns := range manyTurns(most) {
				checkAllAlone(t, h, turns)
			}
		}
	}
}

func TestP23AllGuestsInEveryOrder(t *testing.T) {
	for k, h := range cloneRuns(t) {
		if k%3 != 0 {
			continue
		}
		for _, left := range [][3]int{{1, 1, 1}, {2, 2, 2}, {3, 2, 1}, {0, 3, 3}, {1, 0, 5}, {4, 1, 1}} {
			for _, turns := range ordersOf(left) {
				checkAllAlone(t, h, turns)
			}
		}
	}
}

// Turns behind cloning lead all others to where they lead without it, and the clone to where they lead the one that was cloned.
func TestP23TurnsWithAndWithoutAClone(t *testing.T) {
	compared := 0
	for seed, h := range slices.Concat(alikeHosts(), givenHosts(), rootedHosts()) {
		for _, g := range guestsOf(h) {
			then, at, ok := impl.HostClone(h, g)
			if !ok {
				continue
			}
			turns := slices.DeleteFunc(mixedTurns(seed+g, 40), func(other int) bool { return other == at })
			if checkSameEndBut(t, h, then, turns, at) {
				compared++
			}
			// The same turns, with those of the one that was cloned as turns of the clone, lead that one there.
			turned := slices.Clone(turns)
			for k, other := range turns {
				if other == g {
					turned[k] = at
				}
			}
			ends, many := impl.HostRun(then, turned)
			wants, asked := impl.HostRun(h, turns)
			if many == askedOf(then, turned) && asked == askedOf(h, turns) {
				seen, _ := impl.HostView(ends, at)
				want, _ := impl.HostView(wants, g)
				checkBare(t, "a clone behind the turns of the one that was cloned", seen, want)
			}
			checkAlone(t, then, mixedTurns(seed, 60))
		}
	}
	if compared < 100 {
		t.Errorf("only %d times all turns were done with and without a clone", compared)
	}
}

// checkSameEndBut is checkSameEnd for hosts one of which has a guest more, which has no turns.
func checkSameEndBut(t *testing.T, h impl.Host, then impl.Host, turns []int, at int) bool {
	t.Helper()
	a, manyA := impl.HostRun(h, turns)
	b, manyB := impl.HostRun(then, turns)
	if manyA != askedOf(h, turns) || manyB != manyA {
		return false
	}
	checkSameViews(t, "a clone", a, b, at)
	return true
}

// Words of clones are their own: each is given another number to store, and other words that are to come in.
func TestP23ClonesWithOtherNumbers(t *testing.T) {
	for seed, h := range cloneRuns(t) {
		h = cloned(h)
		for g := range h.Guests {
			h.Guests[g].C.Regs[1] = 1000*g + seed
			h.Guests[g].In = append(slices.Clone(h.Guests[g].In), g, g+1)
			if !impl.HostOk(h) {
				h.Guests[g].In = nil
			}
		}
		for _, turns := range manyTurns(60) {
			checkAllAlone(t, h, turns)
		}
	}
}

// fewClones has hosts with a clone, pages of which were copied so that few frames are free.
func fewClones(t *testing.T) []impl.Host {
	t.Helper()
	list := []impl.Host{}
	bares := []impl.Bare{storeBare(), walkerBare(), twinBare(5), tableBare(3), busyBare(), wildBare(23)}
	for seed := range 48 {
		d := &dice{seed}
		two := bootedHost(t, []impl.Bare{bares[seed%6], bares[seed/6%6]})
		two, _ = impl.HostRun(two, mixedTurns(seed, 3*d.roll(8)))
		for slot := range 16 {
			two, _ = impl.HostFill(two, slot/8, slot%8)
		}
		h, at, ok := impl.HostClone(two, d.roll(2))
		if !ok || at != 2 || len(impl.HostFree(h)) != 4 {
			t.Fatalf("the clone is guest %d, %v, of %+v", at, ok, h)
		}
		for first, page := d.roll(8), 0; len(impl.HostFree(h)) > seed%3; page++ {
			h, _ = impl.HostCopy(h, at, (first+page)%8)
		}
		list = append(list, h)
	}
	return list
}

func TestP23WhereFramesAreFew(t *testing.T) {
	whole, part := 0, 0
	for seed, h := range fewClones(t) {
		for _, turns := range append(manyTurns(60), mixedTurns(seed, 12), mixedTurns(seed, 200)) {
			if checkAlone(t, h, turns) {
				whole++
			} else {
				part++
			}
		}
	}
	for seed, h := range slices.Concat(alikeHosts(), mixedHosts()) {
		if there := len(guestsOf(h)); there > 0 && there < 3 {
			checkAlone(t, allCloned(t, h, seed), mixedTurns(seed*3, 60))
		}
	}
	if min(whole, part) < 100 {
		t.Errorf("all turns were done %d times, and not all of them %d times", whole, part)
	}
}

// Guests are cloned again and again while they run, in the places of those that go, and all of them are what they would be alone.
func TestP23ClonesBetweenTurns(t *testing.T) {
	again := 0
	for seed, h := range append(cloneRuns(t), alikeHosts()[:60]...) {
		d, own := &dice{seed}, viewsOf(h)
		for range 120 {
			g := d.roll(3)
			if d.roll(9) == 0 && isThere(h, g) && len(guestsOf(h)) > 1 {
				h, own[g] = dropped(t, h, g), impl.Bare{}
				continue
			}
			if d.roll(9) == 0 && isThere(h, g) && len(guestsOf(h)) < 3 {
				then, at, ok := impl.HostClone(h, g)
				if !ok {
					t.Fatalf("guest %d of %+v was not cloned", g, h)
				}
				h, own[at] = then, own[g]
				again++
				continue
			}
			if then, ok := impl.HostStep(h, g); ok {
				h, own[g] = then, impl.BareStep(own[g])
			}
		}
		for _, g := range guestsOf(h) {
			seen, _ := impl.HostView(h, g)
			checkBare(t, "a guest among clones", seen, own[g])
		}
	}
	if again < 100 {
		t.Errorf("only %d guests were cloned between turns", again)
	}
}

func checkBack(t *testing.T, name string, h impl.Host, g int, b impl.Bare, want impl.Host, wantOk bool) {
	t.Helper()
	if !impl.HostOk(h) {
		t.Fatalf("%s: it is no host: %+v", name, h)
	}
	got, ok := impl.HostBack(h, g, b)
	checkHost(t, "putting back "+name, got, ok, want, wantOk)
}

func TestHostBackByHand(t *testing.T) {
	cases := []struct {
		name   string
		before [3]string
		g      int
		pages  []int
		slots  string
	}{
		{"one alone", [3]string{"0w 1w"}, 0, []int{0, 1}, "0wd 1wd"},
		{"one alone, in other pages", [3]string{"0w 1w"}, 0, []int{3, 6}, "- - - 0wd - - 1wd"},
		{"one alone, with more pages", [3]string{"4w"}, 0, []int{0, 2, 7}, "0wd - 1wd - - - - 2wd"},
		{"one alone, with fewer pages", [3]string{"0w 1wd 2 3d"}, 0, []int{1}, "- 0wd"},
		{"one that may not write", [3]string{"5 6d"}, 0, []int{0, 1}, "0wd 1wd"},
		{"zeros alone", [3]string{"0w 1wd 2 3d"}, 0, nil, "-"},
		{"one without frames", [3]string{"-", "2w"}, 0, []int{0, 3, 4}, "0wd - - 1wd 3wd"},
		{"one without frames, and zeros alone", [3]string{"-"}, 0, nil, "-"},
		{"frames of its own between those of others", [3]string{"0w 2w", "1w 3w 5w", "4w 6w"}, 1, []int{0, 4, 5, 7}, "1wd - - - 3wd 5wd - 7wd"},
		{"frames that another one has, too", [3]string{"0 1 2w", "1 - 0"}, 0, []int{1, 2, 3}, "- 2wd 3wd 4wd"},
		{"frames that several of its own pages have", [3]string{"0 0 1 1d", "2w"}, 0, []int{0, 1, 2}, "0wd 1wd 3wd"},
		{"frames of clones", [3]string{"0 1", "0d 1d", "0 1"}, 1, []int{0, 1}, "2wd 3wd"},
		{"the last guest", [3]string{"0w", "1w", "2w 3wd"}, 2, []int{6, 7}, "- - - - - - 2wd 3wd"},
		{"a guest beside ones that are gone", [3]string{"", "3w 4wd", ""}, 1, []int{2, 5}, "- - 0wd - - 1wd"},
	}
	for _, c := range cases {
		h := drawnHost(letters, c.before)
		b := pagedBare(c.pages...)
		want := withGuest(h, c.g, guestAs(b, drawnSlots(c.slots)))
		for _, page := range c.pages {
			copy(want.Words[want.Guests[c.g].Pages[page].Frame*8:], b.Mem[page*8:page*8+8])
		}
		checkBack(t, c.name, h, c.g, b, want, true)
	}
}

// wantBack takes all frames from a guest first, and then goes through the pages and the free frames side by side.
func wantBack(h impl.Host, g int, b impl.Bare) (impl.Host, bool) {
	if !isThere(h, g) {
		return impl.Host{}, false
	}
	h = cloned(h)
	h.Guests[g] = guestAs(b, noSlots())
	for page := 0; page < 8; page++ {
		words := b.Mem[page*8 : page*8+8]
		if isZeros(words) {
			continue
		}
		free := wantFree(h)
		if len(free) == 0 {
			return impl.Host{}, false
		}
		h.Guests[g].Pages[page] = impl.Slot{Frame: free[0], Write: true, Dirty: true}
		copy(h.Words[free[0]*8:], words)
	}
	return h, true
}

// crowdedHosts has hosts with two free frames at most, where frames are those of one guest, and of several ones.
func crowdedHosts() []impl.Host {
	list := []impl.Host{}
	for k, h := range append(mixedHosts(), alikeHosts()[:100]...) {
		if h = crowded(h, k%3, k%8, k%3); len(impl.HostFree(h)) <= 2 {
			list = append(list, h)
		}
	}
	return list
}

// backBares has machines to which guests are put back.
func backBares() []impl.Bare {
	return append(bootedBares()[:12], pagedBare(firstPages(8)...), pagedBare(firstPages(5)...), counterBare(), tabledBare(true), mixedBare(8))
}

func TestHostBackOfManyHosts(t *testing.T) {
	done, failed := 0, 0
	for k, h := range append(sharingHosts(), crowdedHosts()...) {
		for _, g := range []int{-1, 0, 1, 2, 3} {
			for j, b := range backBares() {
				if k > 20 && (j+k+g)%4 != 0 {
					continue
				}
				want, ok := wantBack(h, g, b)
				checkBack(t, "many hosts", h, g, b, want, ok)
				switch {
				case ok:
					done++
				case isThere(h, g):
					failed++
				}
			}
		}
	}
	if min(done, failed) < 100 {
		t.Errorf("%d guests were put back, for %d frames were missing", done, failed)
	}
}

func TestHostBackToAllKindsOfMachines(t *testing.T) {
	for _, b := range machines() {
		for _, h := range []impl.Host{handHost(), fullHost(0), crowdedHost(1)} {
			want, ok := wantBack(h, 2, b)
			checkBack(t, "a machine", h, 2, b, want, ok)
		}
	}
}

// backHost has a guest with so many frames of its own and all its other pages in frames of others, and so many free frames, which are the last ones; others have all that is left.
func backHost(g int, own int, free int) (impl.Host, bool) {
	h := emptyHost()
	for other := range h.Guests {
		h.Guests[other] = plainGuest()
	}
	frame := 0
	for k := 0; k < 16 && frame < 20-own-free; k++ {
		h.Guests[(g+1+k/8)%3].Pages[k%8] = impl.Slot{Frame: frame, Dirty: k%2 == 0}
		frame++
	}
	if frame < 20-own-free {
		return impl.Host{}, false
	}
	for page := 0; page < 8; page++ {
		if page < own {
			h.Guests[g].Pages[page] = impl.Slot{Frame: frame + page, Write: page%2 == 0}
		} else if frame > 0 {
			h.Guests[g].Pages[page] = impl.Slot{Frame: page % frame}
		}
	}
	return h, true
}

func TestHostBackWithEnoughFramesAndWithOneLess(t *testing.T) {
	just, less := 0, 0
	for g := 0; g < 3; g++ {
		for own := 0; own <= 8; own++ {
			for free := 0; free <= 20-own; free++ {
				h, ok := backHost(g, own, free)
				if !ok {
					continue
				}
				if len(impl.HostFree(h)) != free {
					t.Fatalf("%v are free, not %d", impl.HostFree(h), free)
				}
				for many := 0; many <= 8; many++ {
					for _, pages := range [][]int{firstPages(many), {7, 6, 5, 4, 3, 2, 1, 0}} {
						b := pagedBare(pages[:many]...)
						want, wantOk := wantBack(h, g, b)
						if wantOk != (many <= own+free) {
							t.Fatalf("%d pages on %d frames of its own and %d free ones: %v", many, own, free, wantOk)
						}
						checkBack(t, "enough or one less", h, g, b, want, wantOk)
					}
					switch many {
					case own + free:
						just++
					case own + free + 1:
						less++
					}
				}
			}
		}
	}
	if min(just, less) < 30 {
		t.Errorf("%d times there were just enough frames, %d times one less", just, less)
	}
}

func TestHostBackOnAFullHost(t *testing.T) {
	full := fullHost(0)
	for g, own := range []int{8, 8, 4} {
		for many := 0; many <= 8; many++ {
			b := pagedBare(firstPages(many)...)
			want, _ := wantBack(full, g, b)
			checkBack(t, "a full host", full, g, b, want, many <= own)
			if many > own && !isNothing(want) {
				t.Fatalf("%d pages are in %d frames", many, own)
			}
		}
	}
	// Frames 1 and 9 are those of others, too; frame 17 is that of two of its own pages.
	crowd := crowdedHost(0)
	for many := 0; many <= 8; many++ {
		b := pagedBare([]int{7, 6, 5, 4, 3, 2, 1, 0}[:many]...)
		want, _ := wantBack(crowd, 2, b)
		checkBack(t, "a crowded host", crowd, 2, b, want, many <= 4)
	}
	// All frames of a clone are those of the other one, too, so it gives none back.
	clones := drawnHost(letters, [3]string{"0 1 2 3 4 5 6 7", "0 1 2 3 4 5 6 7", "8w 9w 10w 11w 12w 13w 14w 15w"})
	for many := 0; many <= 8; many++ {
		b := pagedBare(firstPages(many)...)
		for g := 0; g < 3; g++ {
			want, _ := wantBack(clones, g, b)
			checkBack(t, "clones", clones, g, b, want, many <= 4 || g == 2)
		}
	}
}

func TestHostBackOfOthers(t *testing.T) {
	for _, b := range brokenMachines() {
		for _, h := range []impl.Host{handHost(), fullHost(20), fullHost(0)} {
			for _, g := range []int{0, 1, 2} {
				checkBack(t, "no machine", h, g, b, impl.Host{}, false)
			}
		}
	}
	for _, h := range givenHosts() {
		for _, g := range numbersOfGuests() {
			if isThere(h, g) {
				continue
			}
			for _, b := range []impl.Bare{pagedBare(), pagedBare(2), busyBare()} {
				checkBack(t, "nobody there", h, g, b, impl.Host{}, false)
			}
		}
	}
}

// checkPutBack looks whether a guest that is put back is the machine, and nobody else sees anything of it.
func checkPutBack(t *testing.T, h impl.Host, g int, b impl.Bare) (impl.Host, bool) {
	t.Helper()
	then, ok := impl.HostBack(h, g, b)
	if !ok {
		return then, false
	}
	if !impl.HostOk(then) {
		t.Fatalf("behind putting back guest %d it is %+v", g, then)
	}
	seen, there := impl.HostView(then, g)
	if !there {
		t.Fatalf("the guest %d is not there", g)
	}
	checkBare(t, "a guest that was put back", seen, b)
	checkSameViews(t, "putting back", h, then, g)
	for other := range h.Guests {
		if other != g && !same(then.Guests[other], h.Guests[other]) {
			t.Fatalf("behind putting back guest %d guest %d is another one: %+v", g, other, then)
		}
	}
	for page, s := range then.Guests[g].Pages {
		if has := !isZeros(b.Mem[page*8 : page*8+8]); s.Write != has || s.Dirty != has || (s.Frame != -1) != has {
			t.Fatalf("page %d of a guest that was put back is %+v", page, s)
		}
	}
	return then, true
}

func TestP22WhoIsPutBackIsWhatWas(t *testing.T) {
	done := 0
	for k, h := range sharingHosts() {
		for _, g := range guestsOf(h) {
			for j, b := range backBares() {
				if (j+k)%3 != 0 {
					continue
				}
				if _, ok := checkPutBack(t, h, g, b); ok {
					done++
				}
			}
		}
	}
	if done < 1000 {
		t.Errorf("only %d guests were put back", done)
	}
}

// What a guest was is told by how it looked; turns go between, and turns behind it lead where they led then.
func TestP22WhatWasBeforeTurns(t *testing.T) {
	done := 0
	for seed, h := range slices.Concat(cloneRuns(t), roomyHosts(t), alikeHosts()[:100]) {
		for _, g := range guestsOf(h) {
			was, _ := impl.HostView(h, g)
			ran, _ := impl.HostRun(h, mixedTurns(seed, 50))
			then, ok := checkPutBack(t, ran, g, was)
			if !ok {
				continue
			}
			done++
			checkAlone(t, then, mixedTurns(seed+g, 60))
			turns := slices.Repeat([]int{g}, 25)
			first, many := impl.HostRun(h, turns)
			second, again := impl.HostRun(then, turns)
			if many == 25 && again == 25 {
				a, _ := impl.HostView(first, g)
				b, _ := impl.HostView(second, g)
				checkBare(t, "a guest behind the same turns again", b, a)
			}
		}
	}
	if done < 200 {
		t.Errorf("only %d guests were put back", done)
	}
}

// A guest that becomes what it is needs no more frames than it has, but for frames that it shares.
func TestP22WhoIsPutBackToWhatItIs(t *testing.T) {
	done, failed := 0, 0
	for _, h := range sharingHosts() {
		for _, g := range guestsOf(h) {
			is, _ := impl.HostView(h, g)
			then, ok := checkPutBack(t, h, g, is)
			alone := true
			for _, s := range h.Guests[g].Pages {
				alone = alone && (s.Frame == -1 || wantTakers(h)[s.Frame] == 1)
			}
			switch {
			case ok:
				done++
				checkSameViews(t, "becoming what it is", h, then, -1)
				again, ok := impl.HostBack(then, g, is)
				checkHost(t, "putting back twice", again, ok, then, true)
			case alone:
				t.Fatalf("guest %d lacks frames to be what it is on %+v", g, h)
			default:
				failed++
			}
		}
	}
	if done < 100 || failed < 5 {
		t.Errorf("%d guests were put back to what they are, for %d frames were missing", done, failed)
	}
}

// A guest becomes a clone of another one by what that looks like.
func TestP22GuestsThatBecomeOthers(t *testing.T) {
	done := 0
	for _, h := range sharingHosts() {
		there := guestsOf(h)
		for _, g := range there {
			for _, other := range there {
				b, _ := impl.HostView(h, other)
				then, ok := checkPutBack(t, h, g, b)
				if !ok || g == other {
					continue
				}
				done++
				shared := impl.HostShare(impl.HostZero(then))
				for page, s := range shared.Guests[g].Pages {
					if o := shared.Guests[other].Pages[page]; o.Frame != s.Frame && !o.Dirty {
						t.Fatalf("page %d is %+v, and %+v of the other one", page, s, o)
					}
				}
			}
		}
	}
	if done < 100 {
		t.Errorf("only %d guests became others", done)
	}
}

func checkGive(t *testing.T, name string, h impl.Host, g int, pages []int, want impl.Host, wantOk bool) {
	t.Helper()
	if !impl.HostOk(h) {
		t.Fatalf("%s: it is no host: %+v", name, h)
	}
	got, ok := impl.HostGive(h, g, pages)
	checkHost(t, "giving up "+name, got, ok, want, wantOk)
}

func TestHostGiveByHand(t *testing.T) {
	cases := []struct {
		name   string
		before [3]string
		g      int
		pages  []int
		behind [3]string
	}{
		{"none", [3]string{"0w 1wd", "2"}, 0, nil, [3]string{"0w 1wd", "2"}},
		{"a page that may be written", [3]string{"0w 1w"}, 0, []int{0}, [3]string{"- 1w"}},
		{"a page that may not be written", [3]string{"0 1w"}, 0, []int{0}, [3]string{"- 1w"}},
		{"a page that is Dirty", [3]string{"0w 1wd"}, 0, []int{1}, [3]string{"0w -"}},
		{"a page that is Dirty, and may not be written", [3]string{"0w 1d"}, 0, []int{1}, [3]string{"0w -"}},
		{"a page without a frame", [3]string{"0w -"}, 0, []int{1}, [3]string{"0w -"}},
		{"the first page and the last one", [3]string{"0w 1w 2w 3w 4w 5w 6w 7wd"}, 0, []int{7, 0}, [3]string{"- 1w 2w 3w 4w 5w 6w -"}},
		{"a page twice", [3]string{"0w 1w"}, 0, []int{1, 1}, [3]string{"0w -"}},
		{"pages twice, in another order", [3]string{"0w 1w 2wd"}, 0, []int{2, 1, 1, 2}, [3]string{"0w - -"}},
		{"all", [3]string{"0w 1 2wd 3d - 5 5 7", "8w"}, 0, []int{0, 1, 2, 3, 4, 5, 6, 7}, [3]string{"-", "8w"}},
		{"a page of a frame of two", [3]string{"3 3d 4w"}, 0, []int{0}, [3]string{"- 3d 4w"}},
		{"both pages of a frame of two", [3]string{"3 3d 4w"}, 0, []int{0, 1}, [3]string{"- - 4w"}},
		{"a page of a frame that another one has", [3]string{"3", "- 3d", "3d"}, 1, []int{1}, [3]string{"3", "-", "3d"}},
		{"a page of the frame of a clone", [3]string{"3 4", "3 4d"}, 0, []int{1}, [3]string{"3 -", "3 4d"}},
		{"pages of a guest beside ones that are gone", [3]string{"", "3w 4wd", ""}, 1, []int{0}, [3]string{"", "- 4wd", ""}},
		{"pages of the last guest", [3]string{"0w", "1w", "2w 3wd"}, 2, []int{0, 7, 1}, [3]string{"0w", "1w", "- -"}},
	}
	for _, c := range cases {
		checkGive(t, c.name, drawnHost(letters, c.before), c.g, c.pages, drawnHost(letters, c.behind), true)
	}
}

// pagesOfBits has the pages of a set, in one of several orders, some of them twice.
func pagesOfBits(bits int, seed int) []int {
	d := &dice{seed}
	pages := []int{}
	for page := 0; page < 8; page++ {
		if bits>>page&1 == 0 {
			continue
		}
		for range 1 + d.roll(2) {
			pages = slices.Insert(pages, d.roll(len(pages)+1), page)
		}
	}
	return pages
}

func wantGive(h impl.Host, g int, bits int) impl.Host {
	h = cloned(h)
	for page := range h.Guests[g].Pages {
		if bits>>page&1 != 0 {
			h.Guests[g].Pages[page] = impl.Slot{Frame: -1}
		}
	}
	return h
}

func TestHostGiveOfEachSetOfPages(t *testing.T) {
	for bits := 0; bits < 256; bits++ {
		for _, h := range []impl.Host{handHost(), fullHost(0), crowdedHost(1), storeHost(t), entangledHost(34)} {
			for _, g := range guestsOf(h) {
				for seed := 0; seed < 3; seed++ {
					checkGive(t, "a set", h, g, pagesOfBits(bits, seed), wantGive(h, g, bits), true)
				}
			}
		}
	}
}

func TestHostGiveOfManyHosts(t *testing.T) {
	for seed, h := range sharingHosts() {
		for _, g := range guestsOf(h) {
			for _, bits := range []int{0, 255, 1 << (seed % 8), seed % 256, seed * 7 % 256} {
				checkGive(t, "many hosts", h, g, pagesOfBits(bits, seed), wantGive(h, g, bits), true)
			}
		}
	}
}

func TestHostGiveOfManyNumbers(t *testing.T) {
	h := fullHost(0)
	for _, many := range []int{8, 9, 64, 200, 201, 300, 1000} {
		for page := 0; page < 8; page++ {
			checkGive(t, "one page many times", h, 1, slices.Repeat([]int{page}, many), wantGive(h, 1, 1<<page), true)
			checkGive(t, "one page many times, and none", h, 1, append(slices.Repeat([]int{page}, many), 8), impl.Host{}, false)
		}
	}
}

func TestHostGiveOfOthers(t *testing.T) {
	for _, page := range []int{math.MinInt, -8, -2, -1, 8, 9, 15, 16, 64, 1 << 32, math.MaxInt} {
		for _, h := range []impl.Host{handHost(), fullHost(0), fullHost(20)} {
			for _, pages := range [][]int{{page}, {page, 0}, {0, page}, {0, 1, page, 2}, {7, 7, page}, {page, page}} {
				for g := 0; g < 3; g++ {
					checkGive(t, "no page", h, g, pages, impl.Host{}, false)
				}
			}
		}
	}
	for _, h := range givenHosts() {
		for _, g := range numbersOfGuests() {
			if !isThere(h, g) {
				checkGive(t, "pages of nobody", h, g, nil, impl.Host{}, false)
				checkGive(t, "pages of nobody", h, g, []int{3}, impl.Host{}, false)
				checkGive(t, "pages of nobody", h, g, []int{0, 1, 2, 3, 4, 5, 6, 7}, impl.Host{}, false)
			}
		}
	}
}

func TestP64WhatIsGivenUpIsAllZeros(t *testing.T) {
	more, stayed := 0, 0
	for seed, h := range sharingHosts() {
		for _, g := range guestsOf(h) {
			for _, bits := range []int{0, 255, 1 << (seed % 8), seed * 5 % 256, seed * 11 % 256} {
				then, ok := impl.HostGive(h, g, pagesOfBits(bits, seed))
				if !ok || !impl.HostOk(then) {
					t.Fatalf("behind giving up the pages %08b it is %+v, %v", bits, then, ok)
				}
				before, _ := impl.HostView(h, g)
				seen, _ := impl.HostView(then, g)
				want := clonedBare(before)
				for page := 0; page < 8; page++ {
					if bits>>page&1 != 0 {
						copy(want.Mem[page*8:page*8+8], make([]int, 8))
					}
				}
				checkBare(t, "a guest that gave pages up", seen, want)
				checkSameViews(t, "giving up", h, then, g)
				checkOnlySlots(t, "giving up", h, then)
				checkNotFewerFree(t, "giving up", h, then)
				switch {
				case len(impl.HostFree(then)) > len(impl.HostFree(h)):
					more++
				case !same(h, then):
					stayed++
				}
			}
		}
	}
	if min(more, stayed) < 100 {
		t.Errorf("%d times frames were given back, %d times others had them, too", more, stayed)
	}
}

// Frames are free behind it just if nobody else has them.
func TestP64FramesThatAreGivenUp(t *testing.T) {
	for _, c := range slotCases() {
		for slot := 0; slot < 24; slot++ {
			g, page := slot/8, slot%8
			h := hostOfSlot(c, g, page)
			then, ok := impl.HostGive(h, g, []int{page})
			checkHost(t, "giving up", then, ok, withSlot(h, g, page, impl.Slot{Frame: -1}), true)
			isFree := slices.Contains(impl.HostFree(then), 6)
			if isFree != (!c.own && !c.other) {
				t.Fatalf("with %+v frame 6 is free: %v", c, isFree)
			}
			// It is given a frame again, which is all zeros whatever stood there.
			filled, ok := impl.HostFill(then, g, page)
			if !ok {
				t.Fatalf("page %d gets no frame again", page)
			}
			checkSameViews(t, "a frame that is given again", then, filled, -1)
		}
	}
}

// Who gives up in two parts gives up all of both, and twice is once.
func TestP64PagesThatAreGivenUpInParts(t *testing.T) {
	for seed, h := range alikeHosts() {
		for _, g := range guestsOf(h) {
			a, b := pagesOfBits(seed%256, seed), pagesOfBits(seed*3%256, seed)
			first, _ := impl.HostGive(h, g, a)
			second, ok := impl.HostGive(first, g, b)
			all, _ := impl.HostGive(h, g, slices.Concat(b, a))
			checkHost(t, "giving up in parts", second, ok, all, true)
			again, ok := impl.HostGive(second, g, a)
			checkHost(t, "giving up twice", again, ok, second, true)
		}
	}
}

// A guest that gave pages up goes on as the machine that has zeros there, and all others go on as they did.
func TestP64TurnsBehindGivingUp(t *testing.T) {
	for seed, h := range slices.Concat(cloneRuns(t), alikeHosts(), fewFrames(t)) {
		for _, g := range guestsOf(h) {
			then, ok := impl.HostGive(h, g, pagesOfBits(seed*13%256, seed))
			if !ok {
				t.Fatalf("guest %d gave nothing up", g)
			}
			checkAlone(t, then, mixedTurns(seed+g, 50))
		}
	}
}

// On a full host a guest gives frames up, and others get them that waited for one.
func TestHostGiveOnAFullHostByHand(t *testing.T) {
	h := writersHost(0)
	checkRunAs(t, "a full host", h, []int{0, 1, 2}, h, 0)
	frame := h.Guests[0].Pages[4].Frame
	then, ok := impl.HostGive(h, 0, []int{4})
	checkHost(t, "giving up", then, ok, withSlot(h, 0, 4, impl.Slot{Frame: -1}), true)
	checkRunAs(t, "one frame", then, []int{2, 1, 0}, wrote(then, 2, frame, 0), 1)
	// A page of a frame of two that is left alone there is written where it is.
	pair := withSlot(withSlot(h, 0, 1, impl.Slot{Frame: 19}), 2, 6, impl.Slot{Frame: 19})
	checkRunAs(t, "no frame for a copy", pair, []int{0}, pair, 0)
	alone, _ := impl.HostGive(pair, 2, []int{6})
	want := withSlot(alone, 0, 1, impl.Slot{Frame: 19, Write: true, Dirty: true})
	want.Words[19*8] = 66
	want.Guests[0].C.Pc = 1
	checkRunAs(t, "a page that is left alone", alone, []int{0}, want, 1)
}

// otherHosts has hosts that are not right, on which all that is asked for could be done if they were.
func otherHosts() []impl.Host {
	right := drawnHost(letters, [3]string{"0w 1d", "", "1 2wd"})
	list := []impl.Host{
		drawnHost(letters, [3]string{"0w 1wd", "", "1 2wd"}),
		drawnHost(letters, [3]string{"0w 1d", "", "1 2wd 20"}),
		withGuest(right, 1, ghosts()[3]),
		{Words: right.Words[:159], Guests: right.Guests},
		{Words: append(slices.Clone(right.Words), 0), Guests: right.Guests},
		{Words: right.Words, Guests: right.Guests[:2]},
		{Words: right.Words, Guests: append(slices.Clone(right.Guests), impl.Guest{})},
	}
	for _, at := range []int{0, 7, 8, 150, 159} {
		for _, n := range noWords() {
			list = append(list, impl.Host{Words: with(right.Words, at, n), Guests: right.Guests})
		}
	}
	return append(list, brokenHosts()...)
}

func TestCloningOfOtherHosts(t *testing.T) {
	for _, h := range otherHosts() {
		for _, g := range []int{-1, 0, 1, 2, 3} {
			if then, at, ok := impl.HostClone(h, g); ok || at != -1 || !isNothing(then) {
				t.Fatalf("behind cloning %+v is %+v, %d, %v", h, then, at, ok)
			}
			for _, b := range []impl.Bare{pagedBare(), pagedBare(1)} {
				if then, ok := impl.HostBack(h, g, b); ok || !isNothing(then) {
					t.Fatalf("behind putting back %+v is %+v, %v", h, then, ok)
				}
			}
			for _, pages := range [][]int{nil, {1}} {
				if then, ok := impl.HostGive(h, g, pages); ok || !isNothing(then) {
					t.Fatalf("behind giving up %+v is %+v, %v", h, then, ok)
				}
			}
		}
	}
}

// checkClonesApart looks whether hosts behind all that this chapter does are new memory, and what was given is as it was.
func checkClonesApart(t *testing.T, h impl.Host, b impl.Bare, list []int) {
	t.Helper()
	given, machine, pages := clonedWithRoom(h), clonedWithRoom(b), clonedWithRoom(list)
	before := wholeOf(given, machine, pages)
	for g := -1; g <= 3; g++ {
		clone, _, _ := impl.HostClone(given, g)
		checkNewMemory(t, "a host behind cloning", clone, given)
		again, _, _ := impl.HostClone(given, g)
		checkNewMemory(t, "a host behind cloning", again, given, clone)
		back, _ := impl.HostBack(given, g, machine)
		checkNewMemory(t, "a host behind putting back", back, given, machine)
		give, _ := impl.HostGive(given, g, pages)
		checkNewMemory(t, "a host behind giving up", give, given, pages)
	}
	if !slices.Equal(wholeOf(given, machine, pages), before) {
		t.Fatalf("a host, a machine or pages were written to: %+v, %+v, %v", h, b, list)
	}
}

func TestHostsBehindCloningAreNewMemory(t *testing.T) {
	for k, h := range slices.Concat(apartHosts(), alikeHosts()[:60], cloneRuns(t)) {
		b := backBares()[k%len(backBares())]
		checkClonesApart(t, h, b, pagesOfBits(k*7%256, k))
		checkClonesApart(t, h, pagedBare(), nil)
		checkClonesApart(t, h, pagedBare(0, 7), []int{3, 8})
	}
	for k, h := range brokenHosts() {
		if k%13 == 0 {
			checkClonesApart(t, h, pagedBare(1), []int{1})
		}
	}
	for k, b := range brokenMachines() {
		if k%7 == 0 {
			checkClonesApart(t, handHost(), b, []int{-1})
		}
	}
}

// What the slots of a clone become does not come to those of the one that was cloned, whose lists share memory with those of another guest and with the words of the host.
func TestCloningOfListsThatShareMemory(t *testing.T) {
	h := hostOfOneRow()
	for g := 0; g < 2; g++ {
		h.Guests[g].Pages[5].Dirty = g == 1
	}
	before := cloned(h)
	for g := 0; g < 2; g++ {
		want, at := wantClone(before, g)
		checkClone(t, "lists that share memory", h, g, want, at)
		then, _, _ := impl.HostClone(h, g)
		checkNewMemory(t, "a host behind cloning", then, h)
		b := impl.Bare{C: plainCore(), Mem: h.Words[4:68], In: h.Words[70:75], Out: h.Guests[0].In}
		b.C.Regs = h.Words[8:12]
		back, ok := wantBack(before, g, cloned(b))
		checkBack(t, "lists that share memory", h, g, b, back, ok)
		then, _ = impl.HostBack(h, g, b)
		checkNewMemory(t, "a host behind putting back", then, h, b)
		copy(h.Words[100:], []int{2, 5, 2})
		copy(before.Words[100:], []int{2, 5, 2})
		checkGive(t, "lists that share memory", h, g, h.Words[100:103], wantGive(before, g, 1<<2|1<<5), true)
		then, _ = impl.HostGive(h, g, h.Words[100:103])
		checkNewMemory(t, "a host behind giving up", then, h)
	}
	checkSame(t, "the host that was given", h, before)
}
