package tests

import (
	"math"
	"slices"
	"testing"

	"loop.example/guesthouse/impl"
)

func TestConstantsOfShadows(t *testing.T) {
	whys := []int{impl.WhyFine, impl.WhyGuest, impl.WhyFill, impl.WhyCopy}
	if !slices.Equal(whys, []int{0, 1, 2, 3}) {
		t.Errorf("the reasons are %v", whys)
	}
}

// shadowHost has a guest 0 without a table, and a guest 1 with one in its page 4, by which that page can be written itself; both have frame 5.
func shadowHost() impl.Host {
	h := emptyHost()
	h.Guests[0] = plainGuest()
	h.Guests[0].Pages[6] = impl.Slot{Frame: 5}
	h.Guests[0].Pages[7] = impl.Slot{Frame: 0, Write: true}
	h.Guests[1] = guestAs(busyBare(), []impl.Slot{
		{Frame: 3, Write: true}, {Frame: -1}, {Frame: 5}, {Frame: 5, Dirty: true},
		{Frame: 9, Write: true, Dirty: true}, {Frame: 12}, {Frame: 19, Dirty: true}, {Frame: 14, Write: true},
	})
	h.Guests[1].C.Root = 4
	copy(h.Words[72:80], []int{8*0 + 7, 8*1 + 7, 8*2 + 7 + 64, 8*3 + 5, 8*4 + 3, 8*5 + 7 + 4032, 8*1 + 6, 8*7 + 1})
	return h
}

func TestShadowOfByHand(t *testing.T) {
	checkSame(t, "the shadow of a table", impl.ShadowOf(shadowHost(), 1), []impl.Shade{
		{There: true, Write: true, User: true, Page: 0, Frame: 3, Ready: true},
		{There: true, Write: true, User: true, Page: 1, Frame: -1},
		{There: true, Write: true, User: true, Page: 2, Frame: 5},
		{There: true, User: true, Page: 3, Frame: 5},
		{There: true, Write: true, Page: 4, Frame: 9, Ready: true},
		{There: true, Write: true, User: true, Page: 5, Frame: 12},
		{Write: true, User: true, Page: 1, Frame: -1},
		{There: true, Page: 7, Frame: 14, Ready: true},
	})
	checkSame(t, "a shadow without a table", impl.ShadowOf(shadowHost(), 0), []impl.Shade{
		{There: true, Write: true, User: true, Page: 0, Frame: -1},
		{There: true, Write: true, User: true, Page: 1, Frame: -1},
		{There: true, Write: true, User: true, Page: 2, Frame: -1},
		{There: true, Write: true, User: true, Page: 3, Frame: -1},
		{There: true, Write: true, User: true, Page: 4, Frame: -1},
		{There: true, Write: true, User: true, Page: 5, Frame: -1},
		{There: true, Write: true, User: true, Page: 6, Frame: 5},
		{There: true, Write: true, User: true, Page: 7, Frame: 0, Ready: true},
	})
}

// led is where an address leads, and why.
type led struct {
	at  int
	why int
}

func checkLed(t *testing.T, h impl.Host, g int, addr int, a access, want led) {
	t.Helper()
	at, why := impl.ShadowWalk(h, g, addr, a.user, a.write)
	if at != want.at || why != want.why {
		t.Fatalf("%d of guest %d, %+v, leads to %d, %d, not to %+v, in %+v", addr, g, a, at, why, want, h)
	}
}

// Each row has the kernel that reads and writes, and users that do.
func TestShadowWalkByHand(t *testing.T) {
	fault, fill, copies := led{-1, impl.WhyGuest}, led{-1, impl.WhyFill}, led{-1, impl.WhyCopy}
	rows := []struct {
		g    int
		addr int
		want []led
	}{
		{1, 0, []led{{24, 0}, {24, 0}, {24, 0}, {24, 0}}},
		{1, 7, []led{{31, 0}, {31, 0}, {31, 0}, {31, 0}}},
		{1, 8, []led{fill, fill, fill, fill}},
		{1, 15, []led{fill, fill, fill, fill}},
		{1, 16, []led{{40, 0}, copies, {40, 0}, copies}},
		{1, 29, []led{{45, 0}, fault, {45, 0}, fault}},
		{1, 33, []led{{73, 0}, {73, 0}, fault, fault}},
		{1, 47, []led{{103, 0}, copies, {103, 0}, copies}},
		{1, 48, []led{fault, fault, fault, fault}},
		{1, 63, []led{{119, 0}, fault, fault, fault}},
		{0, 0, []led{fill, fill, fill, fill}},
		{0, 47, []led{fill, fill, fill, fill}},
		{0, 48, []led{{40, 0}, copies, {40, 0}, copies}},
		{0, 63, []led{{7, 0}, {7, 0}, {7, 0}, {7, 0}}},
	}
	for _, row := range rows {
		for k, a := range accesses() {
			checkLed(t, shadowHost(), row.g, row.addr, a, row.want[k])
		}
	}
}

// wantShade takes the word of an entry apart by its bits, where the program divides.
func wantShade(h impl.Host, g int, number int) impl.Shade {
	guest := h.Guests[g]
	w := number<<3 | 7
	if root := guest.C.Root; root != -1 {
		w = wantView(h, g).Mem[root<<3|number]
	}
	page := w >> 3 & 7
	s := guest.Pages[page]
	return impl.Shade{There: w&1 != 0, Write: w&2 != 0, User: w&4 != 0, Page: page, Frame: s.Frame, Ready: s.Write}
}

func wantShadow(h impl.Host, g int) []impl.Shade {
	list := []impl.Shade{}
	for number := 0; number < 8; number++ {
		list = append(list, wantShade(h, g, number))
	}
	return list
}

func wantLed(s impl.Shade, addr int, a access) led {
	switch {
	case !s.There || a.write && !s.Write || a.user && !s.User:
		return led{-1, 1}
	case s.Frame == -1:
		return led{-1, 2}
	case a.write && !s.Ready:
		return led{-1, 3}
	}
	return led{s.Frame<<3 | addr&7, 0}
}

// rootedHosts has hosts of many kinds, all guests of which have no table, or one in a page, each page in turn.
func rootedHosts() []impl.Host {
	list := []impl.Host{}
	for _, h := range append(mixedHosts()[:30], handHost(), shadowHost(), fullHost(0), fullHost(20)) {
		for root := -1; root <= 7; root++ {
			turned := cloned(h)
			for _, g := range guestsOf(turned) {
				turned.Guests[g].C.Root = root
			}
			list = append(list, turned)
		}
	}
	return list
}

func TestShadowOfManyHosts(t *testing.T) {
	for _, h := range append(hosts(), rootedHosts()...) {
		for _, g := range guestsOf(h) {
			checkSame(t, "a shadow", impl.ShadowOf(h, g), wantShadow(h, g))
		}
	}
}

func TestShadowWalkOfManyHosts(t *testing.T) {
	seen := [4]int{}
	for _, h := range rootedHosts() {
		for _, g := range guestsOf(h) {
			table := wantShadow(h, g)
			for addr := 0; addr < 64; addr++ {
				for _, a := range accesses() {
					want := wantLed(table[addr>>3], addr, a)
					checkLed(t, h, g, addr, a, want)
					seen[want.why]++
				}
			}
		}
	}
	if slices.Min(seen[:]) < 1000 {
		t.Errorf("reasons were seen so often: %v", seen)
	}
}

// slotCase is a slot, and what else is in its frame: nothing, another page of the guest, or one of another guest.
type slotCase struct {
	s     impl.Slot
	own   bool
	other bool
	// read and write are why an address leads where it does that the guest itself may read, or write.
	read  int
	write int
}

func slotCases() []slotCase {
	fine, fill, copies := impl.WhyFine, impl.WhyFill, impl.WhyCopy
	return []slotCase{
		{s: impl.Slot{Frame: -1}, read: fill, write: fill},
		{s: impl.Slot{Frame: 6, Write: true}, read: fine, write: fine},
		{s: impl.Slot{Frame: 6, Write: true, Dirty: true}, read: fine, write: fine},
		{s: impl.Slot{Frame: 6}, read: fine, write: copies},
		{s: impl.Slot{Frame: 6, Dirty: true}, read: fine, write: copies},
		{s: impl.Slot{Frame: 6}, own: true, read: fine, write: copies},
		{s: impl.Slot{Frame: 6, Dirty: true}, own: true, read: fine, write: copies},
		{s: impl.Slot{Frame: 6}, other: true, read: fine, write: copies},
		{s: impl.Slot{Frame: 6, Dirty: true}, own: true, other: true, read: fine, write: copies},
	}
}

// hostOfSlot has a guest with a page as the case tells, and another guest.
func hostOfSlot(c slotCase, g int, page int) impl.Host {
	h := emptyHost()
	h.Guests[g] = plainGuest()
	h.Guests[g].Pages[page] = c.s
	if c.own {
		h.Guests[g].Pages[(page+1)%8].Frame = 6
	}
	beside := (g + 1) % 3
	h.Guests[beside] = plainGuest()
	if c.other {
		h.Guests[beside].Pages[(page+2)%8].Frame = 6
	}
	return h
}

// withTable puts a table into a page of a guest, in frame 13; a word is the entry of one page of addresses, and all others are open and lead to page 7.
func withTable(h impl.Host, g int, root int, number int, w int) impl.Host {
	h = withSlot(h, g, root, impl.Slot{Frame: 13, Write: true})
	h.Guests[g].C.Root = root
	copy(h.Words[104:112], slices.Repeat([]int{63}, 8))
	h.Words[104+number] = w
	return h
}

// Each row is the lowest three bits of an entry: what the kernel that reads and writes, and users that do, find of it; g is a fault of the guest. Such a fault is told also where the host had something to do.
func TestShadowWalkOfAllEntriesInAllSlots(t *testing.T) {
	rows := []string{"gggg", "rggg", "gggg", "rwgg", "gggg", "rgrg", "gggg", "rwrw"}
	for _, c := range slotCases() {
		whys := map[byte]int{'g': impl.WhyGuest, 'r': c.read, 'w': c.write}
		for bits, row := range rows {
			for page := 0; page < 8; page++ {
				g, number := (page+bits)%3, (page+5)%8
				h := withTable(hostOfSlot(c, g, page), g, (page+4)%8, number, page*8+bits+64*bits)
				for k, a := range accesses() {
					want := led{-1, whys[row[k]]}
					if want.why == impl.WhyFine {
						want.at = 6*8 + k
					}
					checkLed(t, h, g, number*8+k, a, want)
				}
			}
		}
	}
}

// Without a table the guest may do everything, so that only its slots matter.
func TestShadowWalkWithoutATableInAllSlots(t *testing.T) {
	for _, c := range slotCases() {
		for page := 0; page < 8; page++ {
			h := hostOfSlot(c, page%3, page)
			for word := 0; word < 8; word++ {
				for _, a := range accesses() {
					want := led{-1, c.read}
					if a.write {
						want.why = c.write
					}
					if want.why == impl.WhyFine {
						want.at = 6*8 + word
					}
					checkLed(t, h, page%3, page*8+word, a, want)
				}
			}
		}
	}
}

func TestShadowOfEachWordAsAnEntry(t *testing.T) {
	for w := 0; w <= 4095; w++ {
		g, number := w%3, w/64%8
		h := withGuest(emptyHost(), g, plainGuest())
		for page := range h.Guests[g].Pages {
			h.Guests[g].Pages[page] = impl.Slot{Frame: page * 2, Write: page%2 == 0}
		}
		h = withTable(h, g, 3, number, w)
		got := impl.ShadowOf(h, g)
		checkSame(t, "a shadow", got, wantShadow(h, g))
		for _, a := range accesses() {
			checkLed(t, h, g, number*8+7, a, wantLed(got[number], 7, a))
		}
	}
}

// The words of the host would lead somewhere; but those of the table's page are all 0, whatever stands in frames.
func TestTablesInPagesWithoutAFrame(t *testing.T) {
	for root := 0; root < 8; root++ {
		for g := 0; g < 3; g++ {
			h := withGuest(fullHost(20), g, plainGuest())
			h.Words = slices.Repeat([]int{63}, 160)
			for page := range h.Guests[g].Pages {
				h.Guests[g].Pages[page] = impl.Slot{Frame: 19 - page, Write: true}
			}
			h.Guests[g].Pages[root] = impl.Slot{Frame: -1}
			h.Guests[g].C.Root = root
			first := h.Guests[g].Pages[0]
			want := slices.Repeat([]impl.Shade{{Frame: first.Frame, Ready: first.Write}}, 8)
			checkSame(t, "the shadow of a table without a frame", impl.ShadowOf(h, g), want)
			checkAllFaults(t, h, g)
			filled, ok := impl.HostFill(h, g, root)
			if !ok {
				t.Fatalf("page %d of guest %d was not filled", root, g)
			}
			checkAllFaults(t, filled, g)
		}
	}
}

func checkAllFaults(t *testing.T, h impl.Host, g int) {
	t.Helper()
	for addr := 0; addr < 64; addr++ {
		for _, a := range accesses() {
			checkLed(t, h, g, addr, a, led{-1, impl.WhyGuest})
		}
	}
}

// Two guests have one table in one frame, in different pages of theirs; what it leads to is by the slots of each. Behind a copy each has its own.
func TestTablesInPagesThatOtherGuestsHaveToo(t *testing.T) {
	h := emptyHost()
	h.Guests[0], h.Guests[2] = plainGuest(), plainGuest()
	h.Guests[0].Pages[1], h.Guests[2].Pages[6] = impl.Slot{Frame: 13}, impl.Slot{Frame: 13}
	h.Guests[0].Pages[3], h.Guests[2].Pages[3] = impl.Slot{Frame: 4, Write: true}, impl.Slot{Frame: 8}
	h.Guests[0].C.Root, h.Guests[2].C.Root = 1, 6
	copy(h.Words[104:112], []int{8*3 + 7, 8*1 + 3, 8*6 + 3, 0, 0, 0, 0, 0})
	kernel := access{write: true}
	checkLed(t, h, 0, 5, kernel, led{37, impl.WhyFine})
	checkLed(t, h, 2, 5, access{}, led{69, impl.WhyFine})
	checkLed(t, h, 2, 5, kernel, led{-1, impl.WhyCopy})
	checkLed(t, h, 0, 8, kernel, led{-1, impl.WhyCopy})
	checkLed(t, h, 2, 16, kernel, led{-1, impl.WhyCopy})
	checkLed(t, h, 2, 8, kernel, led{-1, impl.WhyFill})
	own, ok := impl.HostCopy(h, 0, 1)
	if !ok {
		t.Fatal("the table was not copied")
	}
	checkLed(t, own, 0, 8, kernel, led{0, impl.WhyFine})
	own.Words[0] = 8*7 + 7
	checkLed(t, own, 0, 5, kernel, led{-1, impl.WhyFill})
	checkLed(t, own, 2, 5, access{}, led{69, impl.WhyFine})
	checkLed(t, own, 2, 16, kernel, led{-1, impl.WhyCopy})
}

func TestTablesThatLeadToThemselvesOnHosts(t *testing.T) {
	for root := 0; root < 8; root++ {
		for number := 0; number < 8; number++ {
			h := withTable(withGuest(emptyHost(), 1, plainGuest()), 1, root, number, 8*root+3)
			for word := 0; word < 8; word++ {
				addr := number*8 + word
				checkLed(t, h, 1, addr, access{write: true}, led{104 + word, impl.WhyFine})
				checkLed(t, h, 1, addr, access{user: true}, led{-1, impl.WhyGuest})
			}
			h.Guests[1].Pages[root].Write = false
			checkLed(t, h, 1, number*8, access{write: true}, led{-1, impl.WhyCopy})
			// The entry is put elsewhere through itself, to a page without a frame.
			h.Words[104+number] = 8*((root+1)%8) + 7
			checkLed(t, h, 1, number*8, access{}, led{-1, impl.WhyFill})
		}
	}
}

func TestP9BothWaysInOneLeadWhereTheyLeadOneAfterTheOther(t *testing.T) {
	faults, words := 0, 0
	for _, h := range rootedHosts() {
		for _, g := range guestsOf(h) {
			b, _ := impl.HostView(h, g)
			for addr := 0; addr < 64; addr++ {
				for _, a := range accesses() {
					place := impl.Walk(b.Mem, b.C.Root, addr, a.user, a.write)
					at, why := impl.ShadowWalk(h, g, addr, a.user, a.write)
					if (why == impl.WhyGuest) != (place == -1) {
						t.Fatalf("%d of guest %d of %+v leads to %d, %d, and by the machine to %d", addr, g, h, at, why, place)
					}
					if (why == impl.WhyFine) != (at != -1) {
						t.Fatalf("%d of guest %d of %+v leads to %d, because of %d", addr, g, h, at, why)
					}
					if why == impl.WhyGuest {
						faults++
					}
					if why != impl.WhyFine {
						continue
					}
					words++
					if !isIn(at, 159) || h.Words[at] != b.Mem[place] {
						t.Fatalf("%d of guest %d of %+v leads to %d, and by the machine to %d", addr, g, h, at, place)
					}
				}
			}
		}
	}
	if min(faults, words) < 1000 {
		t.Errorf("there were %d faults and %d words", faults, words)
	}
}

// placeSeen is where an address leads in what a guest looks like, if it leads somewhere.
func placeSeen(t *testing.T, b impl.Bare, addr int, a access) int {
	t.Helper()
	place := wantWalk(b.Mem, b.C.Root, addr, a)
	if place == -1 {
		t.Fatalf("%d, %+v, leads nowhere in %+v", addr, a, b)
	}
	return place
}

// What may be written is written where the guest sees it, and nobody else does.
func TestP9WhatIsWrittenAtAPlaceIsSeenThere(t *testing.T) {
	for _, h := range rootedHosts() {
		for _, g := range guestsOf(h) {
			for addr := 3; addr < 64; addr += 8 {
				at, why := impl.ShadowWalk(h, g, addr, false, true)
				if why != impl.WhyFine {
					continue
				}
				b := wantView(h, g)
				b.Mem[placeSeen(t, b, addr, access{write: true})] ^= 1
				then := cloned(h)
				then.Words[at] ^= 1
				seen, _ := impl.HostView(then, g)
				checkBare(t, "a guest in which a word was written", seen, b)
				checkSameViews(t, "a word that was written", h, then, g)
			}
		}
	}
}

func TestP58AShadowIsOfTheGuestsTable(t *testing.T) {
	for _, h := range append(hosts(), rootedHosts()...) {
		for _, g := range guestsOf(h) {
			b, _ := impl.HostView(h, g)
			table := impl.ShadowOf(h, g)
			if len(table) != impl.GuestPages {
				t.Fatalf("the shadow of guest %d of %+v has %d entries", g, h, len(table))
			}
			for number, s := range table {
				own := impl.Entry{There: true, Write: true, User: true, Page: number}
				if b.C.Root != -1 {
					own = impl.EntryFrom(b.Mem[b.C.Root*impl.PageWords+number])
				}
				if own != (impl.Entry{There: s.There, Write: s.Write, User: s.User, Page: s.Page}) {
					t.Fatalf("the shadow of %+v is %+v", own, s)
				}
				slot := h.Guests[g].Pages[s.Page]
				if s.Frame != slot.Frame || s.Ready != slot.Write {
					t.Fatalf("the shadow of page %d, of which %+v tells, is %+v", s.Page, slot, s)
				}
			}
		}
	}
}

// The user, the kernel and all else of a core but its table do not matter, and neither do slots that are Dirty.
func TestShadowOfLooksAtTheTableAlone(t *testing.T) {
	for _, h := range mixedHosts() {
		for _, g := range guestsOf(h) {
			turned := cloned(h)
			root := turned.Guests[g].C.Root
			turned.Guests[g].C = plainCore()
			turned.Guests[g].C.Root = root
			turned.Guests[g].C.Stopped = true
			turned.Guests[g].In, turned.Guests[g].Out = nil, nil
			for page := range turned.Guests[g].Pages {
				turned.Guests[g].Pages[page].Dirty = false
			}
			checkSame(t, "a shadow", impl.ShadowOf(turned, g), impl.ShadowOf(h, g))
		}
	}
}

func checkHost(t *testing.T, name string, got impl.Host, ok bool, want impl.Host, wantOk bool) {
	t.Helper()
	if ok != wantOk {
		t.Fatalf("%s is done: %v, not %v", name, ok, wantOk)
	}
	checkSame(t, "a host behind "+name, got, want)
}

func TestHostFillByHand(t *testing.T) {
	want := withSlot(handHost(), 0, 5, impl.Slot{Frame: 1, Write: true})
	copy(want.Words[8:16], make([]int, 8))
	got, ok := impl.HostFill(handHost(), 0, 5)
	checkHost(t, "filling page 5", got, ok, want, true)
	want = withSlot(want, 2, 1, impl.Slot{Frame: 2, Write: true})
	copy(want.Words[16:24], make([]int, 8))
	got, ok = impl.HostFill(got, 2, 1)
	checkHost(t, "filling page 1", got, ok, want, true)
	want = withSlot(want, 2, 6, impl.Slot{Frame: 4, Write: true})
	copy(want.Words[32:40], make([]int, 8))
	got, ok = impl.HostFill(got, 2, 6)
	checkHost(t, "filling page 6", got, ok, want, true)
}

// Pages that have a frame are left alone: ones that may be written, that may not, that are Dirty, and those in the frame of several pages.
func TestHostFillOfPagesThatHaveAFrameByHand(t *testing.T) {
	for _, page := range []int{0, 2, 3, 4, 6} {
		got, ok := impl.HostFill(handHost(), 0, page)
		checkHost(t, "filling a page with a frame", got, ok, handHost(), true)
	}
	for _, page := range []int{0, 5, 7} {
		got, ok := impl.HostFill(handHost(), 2, page)
		checkHost(t, "filling a page with a frame", got, ok, handHost(), true)
	}
}

// wantFill writes into a host of its own.
func wantFill(h impl.Host, g int, page int) (impl.Host, bool) {
	h = cloned(h)
	slot := &h.Guests[g].Pages[page]
	if slot.Frame != -1 {
		return h, true
	}
	free := wantFree(h)
	if len(free) == 0 {
		return impl.Host{}, false
	}
	*slot = impl.Slot{Frame: free[0], Write: true}
	copy(h.Words[free[0]*8:], make([]int, 8))
	return h, true
}

// crowdedHost has all guests, at most two free frames, and pages in frames of other guests, or of the same guest, that could only be copied to these.
func crowdedHost(free int) impl.Host {
	h := fullHost(free)
	h.Guests[2].Pages[7] = impl.Slot{Frame: 1, Dirty: true}
	h.Guests[2].Pages[6] = impl.Slot{Frame: 9}
	h.Guests[2].Pages[5] = impl.Slot{Frame: 17}
	return h
}

// stoppedHost has guests that are not at work: they have stopped, a tick waits for them, and users were at it.
func stoppedHost() impl.Host {
	h := crowdedHost(2)
	for g := range h.Guests {
		c := plainCore()
		c.SavedUser, c.Waits, c.User, c.On, c.Stopped = true, true, true, true, true
		h.Guests[g].C = c
	}
	return h
}

// givenHosts has hosts for what is given to guests, with many free frames, one and none.
func givenHosts() []impl.Host {
	return append(someHosts(), shadowHost(), crowdedHost(0), crowdedHost(1), crowdedHost(2), stoppedHost())
}

func TestHostFillOfManyHosts(t *testing.T) {
	for _, h := range givenHosts() {
		for _, g := range guestsOf(h) {
			for page := 0; page < 8; page++ {
				want, wantOk := wantFill(h, g, page)
				got, ok := impl.HostFill(h, g, page)
				checkHost(t, "filling", got, ok, want, wantOk)
			}
		}
	}
}

func TestHostFillWithOneFreeFrameAndWithNone(t *testing.T) {
	last, ok := impl.HostFill(fullHost(1), 2, 5)
	if !ok || last.Guests[2].Pages[5] != (impl.Slot{Frame: 19, Write: true}) || !isZeros(last.Words[152:]) {
		t.Fatalf("the last frame was not given: %+v, %v", last, ok)
	}
	for _, h := range []impl.Host{last, fullHost(0)} {
		for page := 3; page < 8; page++ {
			if h.Guests[2].Pages[page].Frame != -1 {
				continue
			}
			if then, ok := impl.HostFill(h, 2, page); ok || !isNothing(then) {
				t.Fatalf("page %d was filled without a free frame: %+v, %v", page, then, ok)
			}
		}
		for g := 0; g < 3; g++ {
			then, ok := impl.HostFill(h, g, 2)
			checkHost(t, "filling a page with a frame", then, ok, h, true)
		}
	}
}

func TestHostFillUntilNoFrameIsFree(t *testing.T) {
	h := fullHost(20)
	for k := 0; k < 24; k++ {
		then, ok := impl.HostFill(h, 2-k/8, 7-k%8)
		if ok != (k < 20) {
			t.Fatalf("page %d was filled: %v", k, ok)
		}
		if !ok {
			continue
		}
		if s := then.Guests[2-k/8].Pages[7-k%8]; s != (impl.Slot{Frame: k, Write: true}) {
			t.Fatalf("page %d is at %+v", k, s)
		}
		if len(impl.HostFree(then)) != 19-k {
			t.Fatalf("%v are free behind %d pages", impl.HostFree(then), k+1)
		}
		checkSameViews(t, "filling", h, then, -1)
		h = then
	}
	if !isZeros(h.Words) {
		t.Errorf("words are left in frames that were given: %v", h.Words)
	}
}

func TestP10WhoGetsAFrameSeesNothingNew(t *testing.T) {
	filled, had, failed := 0, 0, 0
	for _, h := range givenHosts() {
		for _, g := range guestsOf(h) {
			for page := 0; page < 8; page++ {
				then, ok := impl.HostFill(h, g, page)
				before := h.Guests[g].Pages[page]
				if ok != (before.Frame != -1 || len(impl.HostFree(h)) > 0) {
					t.Fatalf("page %d of guest %d of %+v was filled: %v", page, g, h, ok)
				}
				if !ok {
					failed++
					continue
				}
				if !impl.HostOk(then) || then.Guests[g].Pages[page].Frame == -1 {
					t.Fatalf("behind filling page %d of guest %d it is %+v", page, g, then)
				}
				checkSameViews(t, "filling", h, then, -1)
				if before.Frame != -1 {
					had++
					continue
				}
				filled++
				if !slices.Contains(impl.HostFree(h), then.Guests[g].Pages[page].Frame) {
					t.Fatalf("page %d of guest %d is in a frame that was not free: %+v", page, g, then)
				}
			}
		}
	}
	if filled < 100 || had < 100 || failed < 4 {
		t.Errorf("%d were filled, %d had a frame, %d failed", filled, had, failed)
	}
}

func TestHostCopyByHand(t *testing.T) {
	// Page 4 of guest 0 is Dirty, and in frame 5, as three other pages are.
	want := withSlot(handHost(), 0, 4, impl.Slot{Frame: 1, Write: true, Dirty: true})
	copy(want.Words[8:16], []int{1040, 1041, 1042, 1043, 1044, 1045, 1046, 1047})
	got, ok := impl.HostCopy(handHost(), 0, 4)
	checkHost(t, "copying page 4", got, ok, want, true)
	want = withSlot(want, 2, 0, impl.Slot{Frame: 2, Write: true})
	copy(want.Words[16:24], []int{1040, 1041, 1042, 1043, 1044, 1045, 1046, 1047})
	got, ok = impl.HostCopy(got, 2, 0)
	checkHost(t, "copying page 0", got, ok, want, true)
	want = withSlot(want, 2, 5, impl.Slot{Frame: 4, Write: true})
	copy(want.Words[32:40], []int{1040, 1041, 1042, 1043, 1044, 1045, 1046, 1047})
	got, ok = impl.HostCopy(got, 2, 5)
	checkHost(t, "copying page 5", got, ok, want, true)
	// Nobody else has frame 5 any more.
	want = withSlot(want, 0, 3, impl.Slot{Frame: 5, Write: true})
	got, ok = impl.HostCopy(got, 0, 3)
	checkHost(t, "copying page 3", got, ok, want, true)
}

func TestHostCopyOfPagesThatAreAloneByHand(t *testing.T) {
	got, ok := impl.HostCopy(handHost(), 0, 2)
	checkHost(t, "copying a Dirty page", got, ok, withSlot(handHost(), 0, 2, impl.Slot{Frame: 0, Write: true, Dirty: true}), true)
	got, ok = impl.HostCopy(handHost(), 2, 7)
	checkHost(t, "copying a page", got, ok, withSlot(handHost(), 2, 7, impl.Slot{Frame: 12, Write: true}), true)
	for _, page := range []int{0, 6} {
		got, ok = impl.HostCopy(handHost(), 0, page)
		checkHost(t, "copying a page that may be written", got, ok, handHost(), true)
	}
}

func TestHostCopyOfPagesWithoutAFrame(t *testing.T) {
	for _, h := range givenHosts() {
		for _, g := range guestsOf(h) {
			for page, s := range h.Guests[g].Pages {
				then, ok := impl.HostCopy(h, g, page)
				if s.Frame == -1 && (ok || !isNothing(then)) {
					t.Fatalf("page %d of guest %d has no frame, and was copied: %+v, %v", page, g, then, ok)
				}
			}
		}
	}
}

// wantCopy writes into a host of its own.
func wantCopy(h impl.Host, g int, page int) (impl.Host, bool) {
	h = cloned(h)
	slot := &h.Guests[g].Pages[page]
	free := wantFree(h)
	if slot.Frame == -1 || wantTakers(h)[slot.Frame] > 1 && len(free) == 0 {
		return impl.Host{}, false
	}
	if wantTakers(h)[slot.Frame] > 1 {
		copy(h.Words[free[0]*8:free[0]*8+8], h.Words[slot.Frame*8:])
		slot.Frame = free[0]
	}
	slot.Write = true
	return h, true
}

func TestHostCopyOfManyHosts(t *testing.T) {
	for _, h := range givenHosts() {
		for _, g := range guestsOf(h) {
			for page := 0; page < 8; page++ {
				want, wantOk := wantCopy(h, g, page)
				got, ok := impl.HostCopy(h, g, page)
				checkHost(t, "copying", got, ok, want, wantOk)
			}
		}
	}
}

// Frames of several pages can be copied as long as a frame is free; all others can be written without one.
func TestHostCopyWithOneFreeFrameAndWithNone(t *testing.T) {
	shared := [][]int{{0, 1}, {1, 1}, {2, 1}, {2, 5}, {2, 6}, {2, 7}}
	for g := 0; g < 3; g++ {
		for page := 0; page < 8; page++ {
			isShared := slices.ContainsFunc(shared, func(p []int) bool { return p[0] == g && p[1] == page })
			full, one := crowdedHost(0), crowdedHost(1)
			if full.Guests[g].Pages[page].Frame == -1 {
				continue
			}
			then, ok := impl.HostCopy(full, g, page)
			if ok == isShared || isShared && !isNothing(then) {
				t.Fatalf("without a free frame page %d of guest %d was copied: %v, %+v", page, g, ok, then)
			}
			if one.Guests[g].Pages[page].Frame == -1 {
				continue
			}
			then, ok = impl.HostCopy(one, g, page)
			want := one.Guests[g].Pages[page]
			want.Write = true
			if isShared {
				want.Frame = 19
			}
			if !ok || then.Guests[g].Pages[page] != want {
				t.Fatalf("with a free frame page %d of guest %d was copied: %v, %+v", page, g, ok, then)
			}
		}
	}
}

// All pages of a guest are in one frame; the last one of them stays there.
func TestHostCopyUntilEachPageHasItsFrame(t *testing.T) {
	for last := 0; last < 8; last++ {
		h := withGuest(emptyHost(), 1, guestAs(busyBare(), slices.Repeat([]impl.Slot{{Frame: 3, Dirty: true}}, 8)))
		frames := []int{0, 1, 2, 4, 5, 6, 7, 3}
		for k, frame := range frames {
			page := (last + 1 + k) % 8
			then, ok := impl.HostCopy(h, 1, page)
			if !ok || then.Guests[1].Pages[page] != (impl.Slot{Frame: frame, Write: true, Dirty: true}) {
				t.Fatalf("page %d is not in frame %d: %v, %+v", page, frame, ok, then)
			}
			checkSameViews(t, "copying", h, then, -1)
			h = then
		}
	}
}

// All 24 pages of a host are in one frame: 19 can be copied, and the others stay together.
func TestHostCopyUntilNoFrameIsFree(t *testing.T) {
	h := fullHost(20)
	for g := range h.Guests {
		h.Guests[g].Pages = slices.Repeat([]impl.Slot{{Frame: 19}}, 8)
	}
	for k := 0; k < 24; k++ {
		then, ok := impl.HostCopy(h, k%3, k/3)
		if ok != (k < 19) {
			t.Fatalf("page %d was copied: %v", k, ok)
		}
		if ok {
			checkSameViews(t, "copying", h, then, -1)
			h = then
		}
	}
	if len(impl.HostFree(h)) != 0 || wantTakers(h)[19] != 5 {
		t.Errorf("it is %+v", h)
	}
}

func TestP11WhoGetsACopySeesNothingNew(t *testing.T) {
	moved, stayed, failed := 0, 0, 0
	for _, h := range givenHosts() {
		for _, g := range guestsOf(h) {
			for page := 0; page < 8; page++ {
				then, ok := impl.HostCopy(h, g, page)
				before := h.Guests[g].Pages[page]
				if !ok {
					failed++
					continue
				}
				s := then.Guests[g].Pages[page]
				if !impl.HostOk(then) || s.Frame == -1 || !s.Write || s.Dirty != before.Dirty {
					t.Fatalf("behind copying page %d of guest %d it is %+v", page, g, then)
				}
				if wantTakers(then)[s.Frame] != 1 {
					t.Fatalf("behind copying page %d of guest %d another page has its frame: %+v", page, g, then)
				}
				checkSameViews(t, "copying", h, then, -1)
				if s.Frame == before.Frame {
					stayed++
				} else {
					moved++
				}
			}
		}
	}
	if moved < 100 || stayed < 100 || failed < 100 {
		t.Errorf("%d were copied, %d stayed, %d failed", moved, stayed, failed)
	}
}

func TestP11ACopyIsWrittenByOneAlone(t *testing.T) {
	for _, h := range givenHosts() {
		for _, g := range guestsOf(h) {
			for page := 0; page < 8; page++ {
				then, ok := impl.HostCopy(h, g, page)
				if !ok {
					continue
				}
				want := wantView(h, g)
				for word := 0; word < 8; word++ {
					then.Words[then.Guests[g].Pages[page].Frame*8+word] ^= 1
					want.Mem[page*8+word] ^= 1
				}
				seen, _ := impl.HostView(then, g)
				checkBare(t, "a guest whose copy was written", seen, want)
				checkSameViews(t, "what one writes", h, then, g)
			}
		}
	}
}

// answered does what the host has to do first, and tells false if a frame is missing.
func answered(h impl.Host, g int, page int, why int) (impl.Host, bool) {
	if why == impl.WhyFill {
		return impl.HostFill(h, g, page)
	}
	return impl.HostCopy(h, g, page)
}

// Whatever the host has to do for an address, behind it the address leads to the same word for the same access, and nobody sees anything of it.
func TestAddressesLeadSomewhereWhenTheHostDidItsPart(t *testing.T) {
	filled, copied := 0, 0
	for _, h := range append(rootedHosts(), crowdedHost(0), crowdedHost(1)) {
		for _, g := range guestsOf(h) {
			for addr := 0; addr < 64; addr += 5 {
				for _, a := range accesses() {
					_, why := impl.ShadowWalk(h, g, addr, a.user, a.write)
					if why == impl.WhyFine || why == impl.WhyGuest {
						continue
					}
					page := wantShade(h, g, addr>>3).Page
					then, ok := answered(h, g, page, why)
					if !ok {
						continue
					}
					if why == impl.WhyFill {
						filled++
					} else {
						copied++
					}
					b := wantView(h, g)
					at, now := impl.ShadowWalk(then, g, addr, a.user, a.write)
					if now != impl.WhyFine || then.Words[at] != b.Mem[placeSeen(t, b, addr, a)] {
						t.Fatalf("%d of guest %d, %+v, leads to %d, %d behind %d, in %+v", addr, g, a, at, now, why, then)
					}
					checkSameViews(t, "what the host did", h, then, -1)
				}
			}
		}
	}
	if min(filled, copied) < 100 {
		t.Errorf("%d were filled, %d copied", filled, copied)
	}
}

func checkNoShadow(t *testing.T, h impl.Host, g int) {
	t.Helper()
	if table := impl.ShadowOf(h, g); len(table) != 0 {
		t.Fatalf("the shadow of guest %d of %+v is %+v", g, h, table)
	}
	for _, addr := range []int{-1, 0, 8, 63, 64} {
		for _, a := range accesses() {
			checkLed(t, h, g, addr, a, led{-1, -1})
		}
	}
	for _, page := range []int{-1, 0, 5, 7, 8} {
		checkNotGiven(t, h, g, page)
	}
}

func checkNotGiven(t *testing.T, h impl.Host, g int, page int) {
	t.Helper()
	if then, ok := impl.HostFill(h, g, page); ok || !isNothing(then) {
		t.Fatalf("page %d of guest %d of %+v was filled: %+v, %v", page, g, h, then, ok)
	}
	if then, ok := impl.HostCopy(h, g, page); ok || !isNothing(then) {
		t.Fatalf("page %d of guest %d of %+v was copied: %+v, %v", page, g, h, then, ok)
	}
}

func TestShadowsOfOtherHosts(t *testing.T) {
	for _, h := range brokenHosts() {
		for _, g := range []int{-1, 0, 1, 2, 3} {
			checkNoShadow(t, h, g)
		}
	}
}

func TestShadowsOfGuestsThatAreNotThere(t *testing.T) {
	for _, h := range givenHosts() {
		for _, g := range numbersOfGuests() {
			if !isThere(h, g) {
				checkNoShadow(t, h, g)
			}
		}
	}
}

// Each page has a frame that may be written, or none, and so would a page, or an address, just outside.
func TestAddressesAndPagesOutsideOfTheirRanges(t *testing.T) {
	for _, h := range []impl.Host{shadowHost(), fullHost(20), fullHost(1), handHost()} {
		for _, g := range guestsOf(h) {
			for _, addr := range fieldNumbers(63) {
				if isIn(addr, 63) {
					continue
				}
				for _, a := range accesses() {
					checkLed(t, h, g, addr, a, led{-1, -1})
				}
			}
			for _, page := range append(fieldNumbers(7), 19, 20, 63, 1<<32, math.MinInt) {
				if !isIn(page, 7) {
					checkNotGiven(t, h, g, page)
				}
			}
		}
	}
}

func TestAddressesAndPagesAtTheEndsOfTheirRanges(t *testing.T) {
	for g := 0; g < 3; g++ {
		h := withGuest(emptyHost(), g, plainGuest())
		h.Guests[g].Pages[0], h.Guests[g].Pages[7] = impl.Slot{Frame: 0}, impl.Slot{Frame: 19, Write: true}
		for _, c := range []struct{ addr, at int }{{0, 0}, {7, 7}, {56, 152}, {63, 159}} {
			checkLed(t, h, g, c.addr, access{user: true}, led{c.at, impl.WhyFine})
		}
		checkLed(t, h, g, 8, access{}, led{-1, impl.WhyFill})
		checkLed(t, h, g, 55, access{}, led{-1, impl.WhyFill})
		checkLed(t, h, g, 7, access{write: true}, led{-1, impl.WhyCopy})
		for _, page := range []int{0, 7} {
			_, filled := impl.HostFill(withSlot(h, g, page, impl.Slot{Frame: -1}), g, page)
			_, copied := impl.HostCopy(h, g, page)
			if !filled || !copied {
				t.Fatalf("page %d of guest %d: %v, %v", page, g, filled, copied)
			}
		}
	}
}

func TestShadowsAreNewMemory(t *testing.T) {
	for _, h := range append(apartHosts(), shadowHost(), crowdedHost(0), crowdedHost(1), crowdedHost(2)) {
		given := clonedWithRoom(h)
		before := wholeOf(given)
		for g := -1; g <= 3; g++ {
			checkNewMemory(t, "a shadow", impl.ShadowOf(given, g), given)
			impl.ShadowWalk(given, g, 9, true, true)
			for page := -1; page <= 8; page++ {
				filled, _ := impl.HostFill(given, g, page)
				checkNewMemory(t, "a host behind filling", filled, given)
				copied, _ := impl.HostCopy(given, g, page)
				checkNewMemory(t, "a host behind copying", copied, given)
			}
		}
		if !slices.Equal(wholeOf(given), before) {
			t.Fatalf("a host was written to: %+v", h)
		}
	}
}

// The guests of this host have their slots in one row, too; what is given to one of them is not given to the other.
func TestShadowsOfListsThatShareMemory(t *testing.T) {
	h := hostOfOneRow()
	for g := 0; g < 2; g++ {
		checkSame(t, "a shadow", impl.ShadowOf(h, g), wantShadow(h, g))
		for page := 0; page < 8; page++ {
			want, wantOk := wantFill(h, g, page)
			got, ok := impl.HostFill(h, g, page)
			checkHost(t, "filling", got, ok, want, wantOk)
			checkNewMemory(t, "a host behind filling", got, h)
			want, wantOk = wantCopy(h, g, page)
			got, ok = impl.HostCopy(h, g, page)
			checkHost(t, "copying", got, ok, want, wantOk)
			checkNewMemory(t, "a host behind copying", got, h)
		}
	}
	checkSame(t, "the host that was given", h, hostOfOneRow())
}
