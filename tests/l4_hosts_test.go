package tests

import (
	"math"
	"slices"
	"testing"

	"loop.example/guesthouse/impl"
)

func TestConstantsOfHosts(t *testing.T) {
	if impl.HostFrames != 20 || impl.MaxGuests != 3 {
		t.Errorf("HostFrames is %d, MaxGuests is %d", impl.HostFrames, impl.MaxGuests)
	}
}

// emptyHost has no guest, and in each word of its frames the place of it, so that it is seen where a word comes from.
func emptyHost() impl.Host {
	h := impl.Host{Words: make([]int, 160), Guests: make([]impl.Guest, 3)}
	for at := range h.Words {
		h.Words[at] = 1000 + at
	}
	return h
}

func noSlots() []impl.Slot {
	return slices.Repeat([]impl.Slot{{Frame: -1}}, 8)
}

// guestAs is a guest with the core and the words in and out of a machine, in some slots.
func guestAs(b impl.Bare, pages []impl.Slot) impl.Guest {
	b = clonedBare(b)
	return impl.Guest{Live: true, C: b.C, Pages: slices.Clone(pages), In: b.In, Out: b.Out}
}

func plainGuest() impl.Guest {
	return guestAs(plainBare(), noSlots())
}

// handHost has guests 0 and 2; frame 5 is that of several pages of both, frames 3 and 19 are written alone, and frame 12 is written by nobody, though it is that of one page.
func handHost() impl.Host {
	h := emptyHost()
	h.Guests[0] = guestAs(plainBare(), []impl.Slot{
		{Frame: 3, Write: true}, {Frame: -1}, {Frame: 0, Dirty: true}, {Frame: 5},
		{Frame: 5, Dirty: true}, {Frame: -1}, {Frame: 19, Write: true, Dirty: true}, {Frame: -1},
	})
	h.Guests[2] = guestAs(busyBare(), []impl.Slot{
		{Frame: 5}, {Frame: -1}, {Frame: -1}, {Frame: -1},
		{Frame: -1}, {Frame: 5}, {Frame: -1}, {Frame: 12},
	})
	return h
}

// fullHost has all guests, in all frames but for the number that is to be free.
func fullHost(free int) impl.Host {
	h := emptyHost()
	taken := 20 - free
	for g := range h.Guests {
		h.Guests[g] = plainGuest()
		for page := 0; page < 8 && g*8+page < taken; page++ {
			h.Guests[g].Pages[page] = impl.Slot{Frame: g*8 + page, Write: page%2 == 0, Dirty: page%3 == 0}
		}
	}
	return h
}

// dice gives numbers that follow from the seed alone, in no order.
type dice struct {
	seed int
}

func (d *dice) roll(sides int) int {
	d.seed = (d.seed*1103515245 + 12345) % (1 << 31)
	return d.seed / 65536 % sides
}

// mixedSlot is one without a frame, one in a frame of its own, the first of those that are left, or one in a frame that others may have.
func mixedSlot(d *dice, left *[]int, shared []int) impl.Slot {
	kind := d.roll(3)
	if kind == 0 || kind == 1 && len(*left) == 0 {
		return impl.Slot{Frame: -1}
	}
	if kind == 2 {
		return impl.Slot{Frame: shared[d.roll(len(shared))], Dirty: d.roll(3) == 0}
	}
	frame := (*left)[0]
	*left = (*left)[1:]
	return impl.Slot{Frame: frame, Write: d.roll(4) != 0, Dirty: d.roll(2) == 0}
}

// mixedHost has guests, slots and words that follow from the seed alone; some of its frames are all zeros.
func mixedHost(seed int) impl.Host {
	d := &dice{seed}
	h := impl.Host{Guests: make([]impl.Guest, 3)}
	frames := []int{}
	for frame := 0; frame < 20; frame++ {
		words := mixedMem(seed*31 + frame)[:8]
		if d.roll(4) == 0 {
			words = make([]int, 8)
		}
		h.Words = append(h.Words, words...)
		frames = slices.Insert(frames, d.roll(frame+1), frame)
	}
	left := frames[4:]
	for g := range h.Guests {
		if d.roll(5) < 2 {
			continue
		}
		h.Guests[g] = guestAs(mixedBare(seed*5+g), noSlots())
		for page := range h.Guests[g].Pages {
			h.Guests[g].Pages[page] = mixedSlot(d, &left, frames[:4])
		}
	}
	return h
}

func mixedHosts() []impl.Host {
	list := []impl.Host{}
	for seed := 1; seed <= 150; seed++ {
		list = append(list, mixedHost(seed))
	}
	return list
}

func withSlot(h impl.Host, g int, page int, s impl.Slot) impl.Host {
	h = cloned(h)
	h.Guests[g].Pages[page] = s
	return h
}

func withGuest(h impl.Host, g int, guest impl.Guest) impl.Host {
	h = cloned(h)
	h.Guests[g] = guest
	return h
}

// edgeHosts has hosts that are ok, with each part of them at the ends of what it may be.
func edgeHosts() []impl.Host {
	list := []impl.Host{emptyHost(), handHost(), fullHost(0), fullHost(1), fullHost(20)}
	for _, w := range []int{0, 4095} {
		h := handHost()
		h.Words = slices.Repeat([]int{w}, 160)
		list = append(list, h)
	}
	for g := 0; g < 3; g++ {
		list = append(list, edgeHostsOf(g)...)
	}
	// A guest that is not there may have lists that are empty, instead of none.
	h := handHost()
	h.Guests[1] = impl.Guest{C: impl.Core{Regs: []int{}}, Pages: []impl.Slot{}, In: []int{}, Out: []int{}}
	return append(list, h)
}

func edgeHostsOf(g int) []impl.Host {
	list := []impl.Host{}
	for _, c := range cores() {
		list = append(list, withGuest(emptyHost(), g, guestAs(impl.Bare{C: c}, noSlots())))
	}
	for _, row := range rowsOfWords() {
		for _, b := range []impl.Bare{{C: plainCore(), In: row}, {C: plainCore(), Out: row}} {
			list = append(list, withGuest(emptyHost(), g, guestAs(b, noSlots())))
		}
	}
	alone := withGuest(emptyHost(), g, plainGuest())
	for page := 0; page < 8; page++ {
		for _, s := range slotsThatAreOk() {
			list = append(list, withSlot(alone, g, page, s))
		}
	}
	return list
}

func slotsThatAreOk() []impl.Slot {
	list := []impl.Slot{{Frame: -1}}
	for _, frame := range []int{0, 1, 18, 19} {
		for _, write := range []bool{false, true} {
			list = append(list, impl.Slot{Frame: frame, Write: write}, impl.Slot{Frame: frame, Write: write, Dirty: true})
		}
	}
	return list
}

func brokenSlots() []impl.Slot {
	list := []impl.Slot{{Frame: -1, Write: true}, {Frame: -1, Dirty: true}, {Frame: -1, Write: true, Dirty: true}}
	for _, frame := range []int{math.MinInt, -20, -2, 20, 21, 160, 1 << 32, math.MaxInt} {
		list = append(list, impl.Slot{Frame: frame}, impl.Slot{Frame: frame, Write: true}, impl.Slot{Frame: frame, Dirty: true})
	}
	return list
}

// someHosts has hosts that are ok, for what takes longer.
func someHosts() []impl.Host {
	return append([]impl.Host{emptyHost(), handHost(), fullHost(0), fullHost(1), fullHost(7), fullHost(20)}, mixedHosts()...)
}

func hosts() []impl.Host {
	return append(edgeHosts(), mixedHosts()...)
}

func TestMixedHostsAreOfAllKinds(t *testing.T) {
	guests := make([]int, 4)
	zeros, shared, free := 0, 0, 0
	for _, h := range mixedHosts() {
		live := 0
		for _, guest := range h.Guests {
			if guest.Live {
				live++
			}
		}
		guests[live]++
		takers := wantTakers(h)
		for frame, many := range takers {
			if many > 1 {
				shared++
			}
			if many == 0 {
				free++
			}
			if many > 0 && isZeros(h.Words[frame*8:frame*8+8]) {
				zeros++
			}
		}
	}
	if slices.Min(guests) == 0 || min(zeros, shared, free) < 50 {
		t.Fatalf("hosts by guests: %v, frames of zeros: %d, of several pages: %d, free: %d", guests, zeros, shared, free)
	}
}

func isZeros(words []int) bool {
	return slices.Max(words) == 0
}

// wantTakers tells for each frame how many slots have it.
func wantTakers(h impl.Host) [20]int {
	takers := [20]int{}
	for _, guest := range h.Guests {
		for _, s := range guest.Pages {
			if s.Frame >= 0 {
				takers[s.Frame]++
			}
		}
	}
	return takers
}

// ghosts has guests that are not there, and are not the zero value by one thing alone.
func ghosts() []impl.Guest {
	list := []impl.Guest{
		{C: impl.Core{Regs: []int{0}}}, {C: impl.Core{Regs: make([]int, 4)}},
		{C: impl.Core{Pc: 1}}, {C: impl.Core{Root: -1}}, {C: impl.Core{Root: 1}}, {C: impl.Core{Vector: 1}},
		{C: impl.Core{Saved: 1}}, {C: impl.Core{SavedUser: true}}, {C: impl.Core{Cause: 1}}, {C: impl.Core{Bad: 1}},
		{C: impl.Core{Timer: 1}}, {C: impl.Core{Waits: true}}, {C: impl.Core{User: true}}, {C: impl.Core{On: true}},
		{C: impl.Core{Stopped: true}}, {C: impl.Core{Pc: -1}}, {C: impl.Core{Timer: -1}}, {C: impl.Core{Bad: math.MinInt}},
		{Pages: []impl.Slot{{}}}, {Pages: []impl.Slot{{Frame: -1}}}, {Pages: noSlots()}, {Pages: make([]impl.Slot, 8)},
		{In: []int{0}}, {In: []int{1}}, {Out: []int{0}}, {Out: []int{1}}, {In: make([]int, 31)},
	}
	gone := plainGuest()
	gone.Live = false
	return append(list, gone)
}

// brokenGuests has guests that are there, with one part that is not ok.
func brokenGuests() []impl.Guest {
	list := []impl.Guest{{Live: true}}
	for _, c := range brokenCores() {
		guest := plainGuest()
		guest.C = c
		list = append(list, guest)
	}
	for _, b := range brokenTalkers() {
		list = append(list, guestAs(b, noSlots()))
	}
	for many := 0; many <= 20; many++ {
		if many != 8 {
			list = append(list, guestAs(plainBare(), slices.Repeat([]impl.Slot{{Frame: -1}}, many)))
		}
	}
	for page := 0; page < 8; page++ {
		for _, s := range brokenSlots() {
			guest := plainGuest()
			guest.Pages[page] = s
			list = append(list, guest)
		}
	}
	return list
}

// brokenHosts has hosts with one part that is not ok.
func brokenHosts() []impl.Host {
	list := []impl.Host{{}, {Words: make([]int, 160)}, {Guests: make([]impl.Guest, 3)}}
	for _, many := range []int{0, 1, 8, 64, 152, 159, 161, 168, 320, 1000} {
		list = append(list, impl.Host{Words: make([]int, many), Guests: handHost().Guests})
	}
	for _, many := range []int{0, 1, 2, 4, 5, 6, 100} {
		list = append(list, impl.Host{Words: make([]int, 160), Guests: make([]impl.Guest, many)})
	}
	list = append(list, impl.Host{Words: make([]int, 160), Guests: fullHost(5).Guests[:2]})
	list = append(list, impl.Host{Words: make([]int, 160), Guests: append(fullHost(0).Guests, plainGuest())})
	for at := 0; at < 160; at++ {
		for _, n := range noWords() {
			h := handHost()
			h.Words[at] = n
			list = append(list, h)
		}
	}
	for g := 0; g < 3; g++ {
		for _, guest := range append(ghosts(), brokenGuests()...) {
			list = append(list, withGuest(emptyHost(), g, guest))
		}
	}
	return append(list, hostsOfManyWriters()...)
}

// hostsOfManyWriters has hosts that are not ok only because a frame of several pages may be written.
func hostsOfManyWriters() []impl.Host {
	list := []impl.Host{}
	for slots := 0; slots < 4; slots++ {
		own, other := handHost(), handHost()
		own.Guests[0].Pages[3].Write = slots&1 != 0
		own.Guests[0].Pages[4].Write = slots&2 != 0
		other.Guests[0].Pages[3].Write = slots&1 != 0
		other.Guests[2].Pages[0].Write = slots&2 != 0
		if slots != 0 {
			list = append(list, own, other)
		}
	}
	return list
}

func TestHostOkOfHosts(t *testing.T) {
	for _, h := range hosts() {
		if !impl.HostOk(h) {
			t.Fatalf("HostOk(%+v) is false", h)
		}
	}
}

func TestHostOkOfOthers(t *testing.T) {
	for _, h := range brokenHosts() {
		if impl.HostOk(h) {
			t.Fatalf("HostOk(%+v) is true", h)
		}
	}
}

// Guests that are there beside it do not make a guest right that is not.
func TestHostOkOfOtherGuestsAmongMany(t *testing.T) {
	for g := 0; g < 3; g++ {
		for _, guest := range append(ghosts(), brokenGuests()...) {
			if h := withGuest(fullHost(20), g, guest); impl.HostOk(h) {
				t.Fatalf("HostOk(%+v) is true", h)
			}
		}
	}
}

// Each two of the 24 slots of a host have one frame, and none, one or both of them may be written.
func TestHostOkOfFramesOfTwoPages(t *testing.T) {
	h := fullHost(20)
	for i := 0; i < 24; i++ {
		for j := 0; j < i; j++ {
			a, b := &h.Guests[i/8].Pages[i%8], &h.Guests[j/8].Pages[j%8]
			for writes := 0; writes < 4; writes++ {
				*a = impl.Slot{Frame: (i + j) % 20, Write: writes&1 != 0}
				*b = impl.Slot{Frame: (i + j) % 20, Write: writes&2 != 0}
				if got := impl.HostOk(h); got != (writes == 0) {
					t.Fatalf("with %+v and %+v, of the slots %d and %d, it is %v", *a, *b, i, j, got)
				}
				b.Frame = (i + j + 1) % 20
				if !impl.HostOk(h) {
					t.Fatalf("with %+v and %+v, of the slots %d and %d, it is false", *a, *b, i, j)
				}
			}
			*a, *b = impl.Slot{Frame: -1}, impl.Slot{Frame: -1}
		}
	}
}

func TestHostOkOfOneFrameOfAllPages(t *testing.T) {
	for _, frame := range []int{0, 7, 19} {
		h := fullHost(20)
		for g := range h.Guests {
			h.Guests[g].Pages = slices.Repeat([]impl.Slot{{Frame: frame, Dirty: g == 1}}, 8)
		}
		if !impl.HostOk(h) {
			t.Fatal("a frame that nobody writes may not be that of all pages")
		}
		for slot := 0; slot < 24; slot++ {
			if impl.HostOk(withSlot(h, slot/8, slot%8, impl.Slot{Frame: frame, Write: true})) {
				t.Fatalf("the slot %d may write to the frame of all pages", slot)
			}
			if !impl.HostOk(withSlot(h, slot/8, slot%8, impl.Slot{Frame: 19 - frame, Write: true})) {
				t.Fatalf("the slot %d may not write to a frame of its own", slot)
			}
		}
		for g := range h.Guests {
			h.Guests[g].Pages = slices.Repeat([]impl.Slot{{Frame: frame, Write: true}}, 8)
		}
		if impl.HostOk(h) {
			t.Fatal("all pages may write to the frame of all pages")
		}
	}
}

// Pages without a frame have nothing that they could share.
func TestHostOkOfManyPagesWithoutAFrame(t *testing.T) {
	h := withSlot(fullHost(20), 1, 3, impl.Slot{Frame: 4, Write: true, Dirty: true})
	if !impl.HostOk(h) {
		t.Error("pages without a frame matter to one that may write")
	}
}

// numbersOfGuests has numbers of guests, and others on both sides of them.
func numbersOfGuests() []int {
	return []int{math.MinInt, -3, -2, -1, 0, 1, 2, 3, 4, 5, 19, 1 << 32, math.MaxInt}
}

func isThere(h impl.Host, g int) bool {
	return isIn(g, 2) && h.Guests[g].Live
}

func TestOtherHostsAreAnswered(t *testing.T) {
	for _, h := range brokenHosts() {
		for _, g := range []int{-1, 0, 1, 2, 3} {
			if b, ok := impl.HostView(h, g); ok || !isNoBare(b) {
				t.Fatalf("the guest %d of %+v looks like %+v, %v", g, h, b, ok)
			}
			if then, ok := impl.HostDrop(h, g); ok || !isNothing(then) {
				t.Fatalf("without the guest %d %+v is %+v, %v", g, h, then, ok)
			}
		}
		if free := impl.HostFree(h); len(free) != 0 {
			t.Fatalf("%v are free in %+v", free, h)
		}
		checkNotBooted(t, h, plainBare())
		checkNotBooted(t, h, impl.Bare{C: plainCore(), Mem: make([]int, 64)})
	}
}

func checkNotBooted(t *testing.T, h impl.Host, b impl.Bare) {
	t.Helper()
	if then, g, ok := impl.HostBoot(h, b); ok || g != -1 || !isNothing(then) {
		t.Fatalf("%+v was booted on %+v: %+v, %d, %v", b, h, then, g, ok)
	}
}

func TestGuestsThatAreNotThereAreAnswered(t *testing.T) {
	for _, h := range someHosts() {
		for _, g := range numbersOfGuests() {
			if isThere(h, g) {
				continue
			}
			if b, ok := impl.HostView(h, g); ok || !isNoBare(b) {
				t.Fatalf("the guest %d of %+v looks like %+v, %v", g, h, b, ok)
			}
			if then, ok := impl.HostDrop(h, g); ok || !isNothing(then) {
				t.Fatalf("without the guest %d %+v is %+v, %v", g, h, then, ok)
			}
		}
	}
}

func TestP55ANewHostHasNobody(t *testing.T) {
	for _, none := range []int{math.MinInt, -1, 0, 1, 2, 3, 20, 4096, math.MaxInt} {
		h := impl.HostNew(none)
		checkSame(t, "a new host", h, impl.Host{Words: make([]int, 160), Guests: make([]impl.Guest, 3)})
		if !impl.HostOk(h) {
			t.Fatalf("HostNew(%d) is no host", none)
		}
		if free := impl.HostFree(h); !slices.Equal(free, []int{0, 1, 2, 3, 4, 5, 6, 7, 8, 9, 10, 11, 12, 13, 14, 15, 16, 17, 18, 19}) {
			t.Fatalf("of a new host %v are free", free)
		}
		for g := 0; g < 3; g++ {
			if _, ok := impl.HostView(h, g); ok {
				t.Fatalf("the guest %d of a new host is there", g)
			}
		}
	}
}

func TestHostViewByHand(t *testing.T) {
	want := plainBare()
	want.Mem = []int{
		1024, 1025, 1026, 1027, 1028, 1029, 1030, 1031,
		0, 0, 0, 0, 0, 0, 0, 0,
		1000, 1001, 1002, 1003, 1004, 1005, 1006, 1007,
		1040, 1041, 1042, 1043, 1044, 1045, 1046, 1047,
		1040, 1041, 1042, 1043, 1044, 1045, 1046, 1047,
		0, 0, 0, 0, 0, 0, 0, 0,
		1152, 1153, 1154, 1155, 1156, 1157, 1158, 1159,
		0, 0, 0, 0, 0, 0, 0, 0,
	}
	b, ok := impl.HostView(handHost(), 0)
	if !ok {
		t.Fatal("the guest 0 is not there")
	}
	checkBare(t, "guest 0", b, want)
	want = busyBare()
	want.Mem = make([]int, 64)
	copy(want.Mem, []int{1040, 1041, 1042, 1043, 1044, 1045, 1046, 1047})
	copy(want.Mem[40:], []int{1040, 1041, 1042, 1043, 1044, 1045, 1046, 1047})
	copy(want.Mem[56:], []int{1096, 1097, 1098, 1099, 1100, 1101, 1102, 1103})
	b, ok = impl.HostView(handHost(), 2)
	if !ok {
		t.Fatal("the guest 2 is not there")
	}
	checkBare(t, "guest 2", b, want)
}

// wantView looks for each word where it is, one by one.
func wantView(h impl.Host, g int) impl.Bare {
	guest := h.Guests[g]
	b := impl.Bare{C: guest.C, In: guest.In, Out: guest.Out}
	for addr := 0; addr < 64; addr++ {
		w := 0
		if frame := guest.Pages[addr>>3].Frame; frame != -1 {
			w = h.Words[frame<<3|addr&7]
		}
		b.Mem = append(b.Mem, w)
	}
	return b
}

func TestP7AGuestLooksLikeAMachine(t *testing.T) {
	for _, h := range hosts() {
		for g, guest := range h.Guests {
			b, ok := impl.HostView(h, g)
			if ok != guest.Live {
				t.Fatalf("that the guest %d of %+v is there is %v", g, h, ok)
			}
			if !ok {
				continue
			}
			checkBare(t, "a guest", b, wantView(h, g))
			if !impl.BareOk(b) || !sameCore(b.C, guest.C) {
				t.Fatalf("the guest %d of %+v looks like %+v", g, h, b)
			}
		}
	}
}

// What stands in frames that are free, or in the first or last one, is not seen in a page without a frame.
func TestP7APageWithoutAFrameIsAllZeros(t *testing.T) {
	for _, h := range append(someHosts(), withGuest(emptyHost(), 1, plainGuest())) {
		for g, guest := range h.Guests {
			b, _ := impl.HostView(h, g)
			for page, s := range guest.Pages {
				if s.Frame == -1 && !isZeros(b.Mem[page*8:page*8+8]) {
					t.Fatalf("page %d of guest %d has no frame, and looks like %v", page, g, b.Mem)
				}
			}
		}
	}
}

// A word of a frame is that of all pages in it, and of no others, whoever may write.
func TestP7AMemoryIsPutTogetherFromFrames(t *testing.T) {
	for _, h := range append(mixedHosts()[:40], handHost(), fullHost(0)) {
		for at := range h.Words {
			turned := cloned(h)
			turned.Words[at] ^= 1
			for g, guest := range h.Guests {
				if !guest.Live {
					continue
				}
				before, _ := impl.HostView(h, g)
				behind, _ := impl.HostView(turned, g)
				for addr := range before.Mem {
					isIt := guest.Pages[addr/8].Frame == at/8 && addr%8 == at%8
					if isIt != (before.Mem[addr] != behind.Mem[addr]) {
						t.Fatalf("the word %d of %+v matters to the address %d of the guest %d: %v", at, h, addr, g, !isIt)
					}
				}
			}
		}
	}
}

// Whether a page may be written, or was, is not seen from outside.
func TestHostViewDoesNotTellOfSlots(t *testing.T) {
	for _, h := range someHosts() {
		plain := cloned(h)
		for g := range plain.Guests {
			for page := range plain.Guests[g].Pages {
				plain.Guests[g].Pages[page].Write = false
				plain.Guests[g].Pages[page].Dirty = false
			}
		}
		checkSameViews(t, "what may be written, or was", h, plain, -1)
	}
}

// checkSameViews looks whether all guests of two hosts look alike, but for one that is left out.
func checkSameViews(t *testing.T, name string, a impl.Host, b impl.Host, but int) {
	t.Helper()
	for g := 0; g < 3; g++ {
		if g == but {
			continue
		}
		before, there := impl.HostView(a, g)
		behind, still := impl.HostView(b, g)
		if there != still || !sameBare(before, behind) {
			t.Fatalf("%s is seen in the guest %d:\n was %+v, %v\n is %+v, %v", name, g, before, there, behind, still)
		}
	}
}

func TestHostFreeByHand(t *testing.T) {
	cases := []struct {
		h    impl.Host
		free []int
	}{
		{handHost(), []int{1, 2, 4, 6, 7, 8, 9, 10, 11, 13, 14, 15, 16, 17, 18}},
		{fullHost(0), nil},
		{fullHost(1), []int{19}},
		{fullHost(3), []int{17, 18, 19}},
		{withSlot(fullHost(0), 0, 0, impl.Slot{Frame: -1}), []int{0}},
		{withSlot(fullHost(0), 1, 2, impl.Slot{Frame: 9}), []int{10}},
	}
	cases[5].h.Guests[1].Pages[1].Write = false
	for _, c := range cases {
		if !impl.HostOk(c.h) {
			t.Fatalf("%+v is no host", c.h)
		}
		if got := impl.HostFree(c.h); !slices.Equal(got, c.free) {
			t.Fatalf("of %+v are free %v, not %v", c.h, got, c.free)
		}
	}
}

func wantFree(h impl.Host) []int {
	free := []int{}
	for frame, many := range wantTakers(h) {
		if many == 0 {
			free = append(free, frame)
		}
	}
	return free
}

func TestHostFreeOfHosts(t *testing.T) {
	for _, h := range hosts() {
		if got := impl.HostFree(h); !slices.Equal(got, wantFree(h)) {
			t.Fatalf("of %+v are free %v, not %v", h, got, wantFree(h))
		}
	}
}

// pagedBare has words in these pages alone, each of which tells its place.
func pagedBare(pages ...int) impl.Bare {
	b := impl.Bare{C: plainCore(), Mem: make([]int, 64), In: []int{8, 9}, Out: []int{10}}
	for _, page := range pages {
		for at := page * 8; at < page*8+8; at++ {
			b.Mem[at] = 3000 + at
		}
	}
	return b
}

func TestHostBootByHand(t *testing.T) {
	b := pagedBare(0, 3, 7)
	want := handHost()
	want.Guests[1] = guestAs(b, []impl.Slot{
		{Frame: 1, Write: true}, {Frame: -1}, {Frame: -1}, {Frame: 2, Write: true},
		{Frame: -1}, {Frame: -1}, {Frame: -1}, {Frame: 4, Write: true},
	})
	copy(want.Words[8:16], []int{3000, 3001, 3002, 3003, 3004, 3005, 3006, 3007})
	copy(want.Words[16:24], []int{3024, 3025, 3026, 3027, 3028, 3029, 3030, 3031})
	copy(want.Words[32:40], []int{3056, 3057, 3058, 3059, 3060, 3061, 3062, 3063})
	h, g, ok := impl.HostBoot(handHost(), b)
	if g != 1 || !ok {
		t.Fatalf("it is guest %d, %v", g, ok)
	}
	checkSame(t, "a host behind booting", h, want)
}

// wantBoot writes into a host of its own, page by page, and tells false if it cannot.
func wantBoot(h impl.Host, b impl.Bare) (impl.Host, int, bool) {
	h = cloned(h)
	g := slices.IndexFunc(h.Guests, func(guest impl.Guest) bool { return !guest.Live })
	free := wantFree(h)
	slots := noSlots()
	for page := 0; page < 8; page++ {
		words := b.Mem[page*8 : page*8+8]
		if isZeros(words) {
			continue
		}
		if len(free) == 0 {
			return impl.Host{}, -1, false
		}
		slots[page] = impl.Slot{Frame: free[0], Write: true}
		copy(h.Words[free[0]*8:], words)
		free = free[1:]
	}
	if g == -1 {
		return impl.Host{}, -1, false
	}
	h.Guests[g] = guestAs(b, slots)
	return h, g, true
}

func checkBoot(t *testing.T, h impl.Host, b impl.Bare) bool {
	t.Helper()
	want, wantG, wantOk := wantBoot(h, b)
	got, g, ok := impl.HostBoot(h, b)
	if g != wantG || ok != wantOk {
		t.Fatalf("%+v on %+v is guest %d, %v, not %d, %v", b, h, g, ok, wantG, wantOk)
	}
	checkSame(t, "a host behind booting", got, want)
	return ok
}

// bootedBares has machines of which all pages, some or none are all zeros, and some of which have just one word.
func bootedBares() []impl.Bare {
	list := []impl.Bare{plainBare(), busyBare(), mixedBare(5), pagedBare(), pagedBare(0), pagedBare(7), pagedBare(2, 3, 4), pagedBare(0, 2, 4, 6)}
	for at := 0; at < 64; at++ {
		b := impl.Bare{C: plainCore(), Mem: make([]int, 64)}
		b.Mem[at] = 1 + at*64
		list = append(list, b)
	}
	stopped := pagedBare(1)
	stopped.C.Stopped = true
	return append(list, stopped)
}

func TestHostBootOfManyMachinesOnManyHosts(t *testing.T) {
	booted, left := 0, 0
	for _, h := range someHosts() {
		for _, b := range bootedBares() {
			if checkBoot(t, h, b) {
				booted++
			} else {
				left++
			}
		}
	}
	if booted < 100 || left < 100 {
		t.Errorf("%d were booted and %d not", booted, left)
	}
}

func TestHostBootOfAllKindsOfMachines(t *testing.T) {
	for _, b := range machines() {
		checkBoot(t, impl.HostNew(0), b)
		checkBoot(t, handHost(), b)
	}
}

func TestHostBootOfOthers(t *testing.T) {
	for _, b := range brokenMachines() {
		for _, h := range []impl.Host{impl.HostNew(0), handHost(), fullHost(20)} {
			checkNotBooted(t, h, b)
		}
	}
}

// hostWithRoom has all guests but one, and so many free frames, which is at least 4: two guests have no more than 16 pages.
func hostWithRoom(gone int, free int) impl.Host {
	h := emptyHost()
	frame := 19
	for g := range h.Guests {
		if g == gone {
			continue
		}
		h.Guests[g] = plainGuest()
		for page := 0; page < 8 && frame >= free; page++ {
			h.Guests[g].Pages[page] = impl.Slot{Frame: frame, Write: true}
			frame--
		}
	}
	return h
}

func firstPages(many int) []int {
	return []int{0, 1, 2, 3, 4, 5, 6, 7}[:many]
}

func TestHostBootWithEnoughFramesAndWithOneLess(t *testing.T) {
	for gone := 0; gone < 3; gone++ {
		for free := 4; free <= 20; free++ {
			h := hostWithRoom(gone, free)
			if len(impl.HostFree(h)) != free {
				t.Fatalf("%v are free, not %d", impl.HostFree(h), free)
			}
			for many := 0; many <= 8; many++ {
				if ok := checkBoot(t, h, pagedBare(firstPages(many)...)); ok != (many <= free) {
					t.Fatalf("%d pages on %d free frames: %v", many, free, ok)
				}
				last := pagedBare([]int{7, 6, 5, 4, 3, 2, 1, 0}[:many]...)
				if ok := checkBoot(t, h, last); ok != (many <= free) {
					t.Fatalf("the last %d pages on %d free frames: %v", many, free, ok)
				}
			}
		}
	}
}

// Without a free frame all guests are there.
func TestHostBootWithAllGuestsAndWithoutAFreeFrame(t *testing.T) {
	for _, free := range []int{0, 1, 8, 20} {
		for many := 0; many <= 8; many++ {
			checkNotBooted(t, fullHost(free), pagedBare(firstPages(many)...))
		}
	}
}

func TestHostBootOfMachinesOfZerosTakesNoFrame(t *testing.T) {
	for gone := 0; gone < 3; gone++ {
		h := hostWithRoom(gone, 4)
		got, g, ok := impl.HostBoot(h, pagedBare())
		if g != gone || !ok || !slices.Equal(got.Words, h.Words) || len(impl.HostFree(got)) != 4 {
			t.Fatalf("it is guest %d, %v, of %+v", g, ok, got)
		}
	}
}

func TestHostBootTakesTheFirstGuestThatIsNotThere(t *testing.T) {
	for there := 0; there < 8; there++ {
		h := emptyHost()
		want := -1
		for g := 2; g >= 0; g-- {
			if there>>g&1 != 0 {
				h.Guests[g] = plainGuest()
			} else {
				want = g
			}
		}
		if _, g, ok := impl.HostBoot(h, pagedBare(4)); g != want || ok != (want >= 0) {
			t.Fatalf("beside the guests %03b it is guest %d, %v", there, g, ok)
		}
	}
}

func TestP8AMachineThatIsBootedLooksAsItWas(t *testing.T) {
	for _, h := range someHosts() {
		for _, b := range bootedBares() {
			then, g, ok := impl.HostBoot(h, b)
			if !ok {
				continue
			}
			if !impl.HostOk(then) || isThere(h, g) {
				t.Fatalf("behind booting guest %d it is %+v", g, then)
			}
			seen, there := impl.HostView(then, g)
			if !there {
				t.Fatalf("the guest %d is not there", g)
			}
			checkBare(t, "a machine that was booted", seen, b)
			checkSameViews(t, "booting", h, then, g)
		}
	}
}

func TestP8MachinesThatAreBootedOneAfterTheOther(t *testing.T) {
	list := []impl.Bare{busyBare(), pagedBare(1, 2, 5), tabledBare(true)}
	h := impl.HostNew(0)
	for k, b := range list {
		then, g, ok := impl.HostBoot(h, b)
		if g != k || !ok {
			t.Fatalf("the machine %d is guest %d, %v", k, g, ok)
		}
		h = then
		for seen := 0; seen <= k; seen++ {
			got, _ := impl.HostView(h, seen)
			checkBare(t, "a guest", got, list[seen])
		}
	}
	checkNotBooted(t, h, pagedBare())
}

func TestHostDropByHand(t *testing.T) {
	for _, g := range []int{0, 2} {
		want := handHost()
		want.Guests[g] = impl.Guest{}
		got, ok := impl.HostDrop(handHost(), g)
		if !ok {
			t.Fatalf("the guest %d was not there", g)
		}
		checkSame(t, "a host without a guest", got, want)
		if again, ok := impl.HostDrop(got, g); ok || !isNothing(again) {
			t.Fatalf("the guest %d goes twice: %+v, %v", g, again, ok)
		}
	}
	if free := impl.HostFree(dropped(t, handHost(), 0)); !slices.Equal(free, []int{0, 1, 2, 3, 4, 6, 7, 8, 9, 10, 11, 13, 14, 15, 16, 17, 18, 19}) {
		t.Fatalf("without guest 0 are free %v", free)
	}
	if free := impl.HostFree(dropped(t, handHost(), 2)); !slices.Equal(free, []int{1, 2, 4, 6, 7, 8, 9, 10, 11, 12, 13, 14, 15, 16, 17, 18}) {
		t.Fatalf("without guest 2 are free %v", free)
	}
}

func dropped(t *testing.T, h impl.Host, g int) impl.Host {
	t.Helper()
	then, ok := impl.HostDrop(h, g)
	if !ok {
		t.Fatalf("the guest %d of %+v cannot go", g, h)
	}
	return then
}

// guestsOf has the numbers of the guests that are there.
func guestsOf(h impl.Host) []int {
	list := []int{}
	for g, guest := range h.Guests {
		if guest.Live {
			list = append(list, g)
		}
	}
	return list
}

func TestP54FewerGuestsAreAHost(t *testing.T) {
	for _, h := range hosts() {
		for _, g := range guestsOf(h) {
			then := dropped(t, h, g)
			want := withGuest(h, g, impl.Guest{})
			checkSame(t, "a host without a guest", then, want)
			if !impl.HostOk(then) {
				t.Fatalf("without guest %d %+v is no host", g, h)
			}
		}
	}
	if !impl.HostOk(impl.HostNew(0)) {
		t.Error("a new host is none")
	}
}

func TestP54AllGuestsGoInAnyOrder(t *testing.T) {
	for _, order := range [][]int{{0, 1, 2}, {0, 2, 1}, {1, 0, 2}, {1, 2, 0}, {2, 0, 1}, {2, 1, 0}} {
		for _, h := range []impl.Host{fullHost(0), fullHost(7), fullHost(20)} {
			words := h.Words
			for _, g := range order {
				h = dropped(t, h, g)
				if !impl.HostOk(h) || isThere(h, g) {
					t.Fatalf("guest %d went, and it is %+v", g, h)
				}
			}
			checkSame(t, "a host without guests", h, impl.Host{Words: words, Guests: make([]impl.Guest, 3)})
		}
	}
}

func TestP56FramesThatAreFreeAreThoseOfNoPage(t *testing.T) {
	for _, h := range hosts() {
		free := impl.HostFree(h)
		for k, frame := range free {
			if !isIn(frame, 19) || k > 0 && free[k-1] >= frame {
				t.Fatalf("%v are free", free)
			}
		}
		for frame, many := range wantTakers(h) {
			if slices.Contains(free, frame) == (many > 0) {
				t.Fatalf("the frame %d is that of %d pages, and %v are free", frame, many, free)
			}
		}
	}
}

func TestP56WhoGoesGivesFramesBack(t *testing.T) {
	for _, h := range hosts() {
		for _, g := range guestsOf(h) {
			before, behind := impl.HostFree(h), impl.HostFree(dropped(t, h, g))
			if len(behind) < len(before) {
				t.Fatalf("%v were free, and without guest %d %v are", before, g, behind)
			}
			want := wantFree(withGuest(h, g, impl.Guest{}))
			if !slices.Equal(behind, want) {
				t.Fatalf("without guest %d %v are free, not %v", g, behind, want)
			}
			for _, frame := range before {
				if !slices.Contains(behind, frame) {
					t.Fatalf("the frame %d is not free any more", frame)
				}
			}
		}
	}
}

func TestP57WhoGoesTakesNothingAlong(t *testing.T) {
	for _, h := range hosts() {
		for _, g := range guestsOf(h) {
			then := dropped(t, h, g)
			if !impl.HostOk(then) {
				t.Fatalf("without guest %d %+v is no host", g, h)
			}
			if _, ok := impl.HostView(then, g); ok {
				t.Fatalf("the guest %d is still there", g)
			}
			checkSameViews(t, "who goes", h, then, g)
		}
	}
}

// Who comes into frames that another one gave back sees nothing of it, and nobody else does.
func TestGuestsComeIntoFramesThatWereGivenBack(t *testing.T) {
	for g := 0; g < 3; g++ {
		h := impl.HostNew(0)
		for _, b := range []impl.Bare{pagedBare(0, 1, 2), pagedBare(1, 2, 3), pagedBare(2, 3, 4)} {
			h, _, _ = impl.HostBoot(h, b)
		}
		b := impl.Bare{C: plainCore(), Mem: make([]int, 64)}
		for page := 0; page < 5; page++ {
			b.Mem[page*8+page] = 1
		}
		then, at, ok := impl.HostBoot(dropped(t, h, g), b)
		if at != g || !ok {
			t.Fatalf("it is guest %d, %v, not %d", at, ok, g)
		}
		frames := []int{}
		for _, s := range then.Guests[g].Pages {
			frames = append(frames, s.Frame)
		}
		if !slices.Equal(frames, []int{3 * g, 3*g + 1, 3*g + 2, 9, 10, -1, -1, -1}) {
			t.Fatalf("its frames are %v", frames)
		}
		seen, _ := impl.HostView(then, g)
		checkBare(t, "a guest in frames that were given back", seen, b)
		checkSameViews(t, "who came", h, then, g)
	}
}

// apartHosts has hosts for what shares memory, also with guests that are not there and have empty lists with room behind them.
func apartHosts() []impl.Host {
	h := handHost()
	h.Guests[1] = impl.Guest{C: impl.Core{Regs: []int{}}, Pages: []impl.Slot{}, In: []int{}, Out: []int{}}
	quiet := handHost()
	quiet.Guests[0].In, quiet.Guests[0].Out = nil, []int{}
	return append(someHosts(), h, quiet)
}

func checkNewMemory(t *testing.T, name string, answer any, given ...any) {
	t.Helper()
	if shareMemory(answer, given...) {
		t.Fatalf("%s shares memory", name)
	}
}

func TestHostsAreNewMemory(t *testing.T) {
	checkNewMemory(t, "a new host", impl.HostNew(0), impl.HostNew(0))
	for _, h := range apartHosts() {
		given := clonedWithRoom(h)
		before := wholeOf(given)
		checkNewMemory(t, "what is free", impl.HostFree(given), given)
		for g := -1; g <= 3; g++ {
			seen, _ := impl.HostView(given, g)
			checkNewMemory(t, "what a guest looks like", seen, given)
			then, _ := impl.HostDrop(given, g)
			checkNewMemory(t, "a host without a guest", then, given)
		}
		impl.HostOk(given)
		if !slices.Equal(wholeOf(given), before) {
			t.Fatalf("a host was written to: %+v", h)
		}
	}
}

func TestBootingMakesNewMemory(t *testing.T) {
	for _, h := range apartHosts() {
		for _, b := range []impl.Bare{busyBare(), pagedBare(), pagedBare(0, 7), {C: plainCore(), Mem: mixedMem(1)}} {
			given, machine := clonedWithRoom(h), clonedWithRoom(b)
			before := wholeOf(given, machine)
			then, _, _ := impl.HostBoot(given, machine)
			checkNewMemory(t, "a host behind booting", then, given, machine)
			if !slices.Equal(wholeOf(given, machine), before) {
				t.Fatalf("booting writes into what is given: %+v, %+v", h, b)
			}
		}
	}
}

// hostOfOneRow has guests whose lists share memory with each other and with the words of the host.
func hostOfOneRow() impl.Host {
	h := emptyHost()
	pages := noSlots()
	pages[2], pages[5] = impl.Slot{Frame: 11}, impl.Slot{Frame: 0, Dirty: true}
	for g := range h.Guests[:2] {
		h.Guests[g] = impl.Guest{Live: true, C: plainCore(), Pages: pages, In: h.Words[g : g+8], Out: h.Words[:30]}
		h.Guests[g].C.Regs = h.Words[8:12]
	}
	return h
}

func TestListsThatShareMemoryAreGiven(t *testing.T) {
	h := hostOfOneRow()
	b := impl.Bare{C: plainCore(), Mem: h.Words[4:68], In: h.Words[70:75], Out: h.Guests[0].In}
	b.C.Regs = h.Words[8:12]
	checkBoot(t, h, b)
	then, _, _ := impl.HostBoot(h, b)
	checkNewMemory(t, "a host behind booting", then, h, b)
	for g := 0; g < 2; g++ {
		seen, _ := impl.HostView(h, g)
		checkBare(t, "a guest", seen, wantView(h, g))
		checkNewMemory(t, "what a guest looks like", seen, h)
		without := dropped(t, h, g)
		checkSame(t, "a host without a guest", without, withGuest(h, g, impl.Guest{}))
		checkNewMemory(t, "a host without a guest", without, h)
	}
	checkSame(t, "the host that was given", h, hostOfOneRow())
}
