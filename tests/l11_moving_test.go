package tests

import (
	"math"
	"slices"
	"testing"

	"loop.example/guesthouse/impl"
)

func TestConstantsOfMoves(t *testing.T) {
	if impl.MoveStep != 1 || impl.MoveSend != 2 {
		t.Errorf("MoveStep is %d, MoveSend is %d", impl.MoveStep, impl.MoveSend)
	}
}

// drawnLeft has pages of which those are left that are drawn by an x.
func drawnLeft(drawn string) []bool {
	left := []bool{}
	for _, c := range drawn {
		left = append(left, c == 'x')
	}
	return left
}

func stepAct() impl.Act {
	return impl.Act{Kind: impl.MoveStep}
}

func sendAct(page int) impl.Act {
	return impl.Act{Kind: impl.MoveSend, Page: page}
}

// sendActs sends pages, one after the other.
func sendActs(pages ...int) []impl.Act {
	acts := []impl.Act{}
	for _, page := range pages {
		acts = append(acts, sendAct(page))
	}
	return acts
}

// handMove is a move of guest 0 to guest 1 of another host, where the pages 0, 1 and 4 have the same words in other frames, page 2 has a frame on neither, and page 3 is all zeros in a frame on the first one alone.
func handMove() impl.Move {
	return impl.Move{
		From: drawnHost("abc.a", [3]string{"0w 1 - 3w 4", "2wd"}),
		To:   drawnHost("..abca", [3]string{"4wd 3", "2w 3 - - 5"}),
		G:    0, N: 1, Left: drawnLeft("........"),
	}
}

// turnedMove is a move with one part turned.
func turnedMove(m impl.Move, turn func(m *impl.Move)) impl.Move {
	m = cloned(m)
	turn(&m)
	return m
}

func checkMoveOk(t *testing.T, name string, m impl.Move, want bool) {
	t.Helper()
	if got := impl.MoveOk(m); got != want {
		t.Fatalf("%s: it is a move: %v, not %v: %+v", name, got, want, m)
	}
}

func TestMoveOkByHand(t *testing.T) {
	slotHere := func(page int, s impl.Slot) func(*impl.Move) {
		return func(m *impl.Move) { m.From.Guests[0].Pages[page] = s }
	}
	slotThere := func(page int, s impl.Slot) func(*impl.Move) {
		return func(m *impl.Move) { m.To.Guests[1].Pages[page] = s }
	}
	left := func(drawn string) func(*impl.Move) {
		return func(m *impl.Move) { m.Left = drawnLeft(drawn) }
	}
	cases := []struct {
		name string
		turn func(*impl.Move)
		want bool
	}{
		{"nothing is left", func(*impl.Move) {}, true},
		{"all is left", left("xxxxxxxx"), true},
		{"some pages are left", left("x.x..x.x"), true},
		{"too few pages", left("......."), false},
		{"too few pages, all left", left("xxxxxxx"), false},
		{"too many pages", left("........."), false},
		{"too many pages, all left", left("xxxxxxxxx"), false},
		{"no pages", left(""), false},
		{"a Dirty page", slotHere(0, impl.Slot{Frame: 0, Write: true, Dirty: true}), false},
		{"a Dirty page that may not be written", slotHere(1, impl.Slot{Frame: 1, Dirty: true}), false},
		{"the last page is Dirty", slotHere(7, impl.Slot{Frame: 3, Dirty: true}), false},
		{"a page of the guest there is Dirty", slotThere(0, impl.Slot{Frame: 2, Write: true, Dirty: true}), true},
		{"a page is in another frame with the same words", slotThere(0, impl.Slot{Frame: 5}), true},
		{"a page is in another frame with the same words, here", slotHere(0, impl.Slot{Frame: 4}), true},
		{"a page is in a frame with other words", slotThere(0, impl.Slot{Frame: 3}), false},
		{"a page is in a frame with other words, here", slotHere(0, impl.Slot{Frame: 1}), false},
		{"a page is in none there, and not all zeros", slotThere(4, impl.Slot{Frame: -1}), false},
		{"a page is in none here, and not all zeros", slotHere(4, impl.Slot{Frame: -1}), false},
		{"a page of zeros is in none on both hosts", slotHere(3, impl.Slot{Frame: -1}), true},
		{"a page of zeros is in a frame on both hosts", slotThere(3, impl.Slot{Frame: 1}), true},
		{"a page of zeros is in a frame there alone", slotThere(2, impl.Slot{Frame: 0, Write: true}), true},
		{"the frame is the same, and the words are not", slotThere(7, impl.Slot{Frame: 10}), false},
		{"a word turned here", func(m *impl.Move) { m.From.Words[7]++ }, false},
		{"a word turned there", func(m *impl.Move) { m.To.Words[24]++ }, false},
		{"a word turned on both", func(m *impl.Move) { m.From.Words[8]++; m.To.Words[24]++ }, true},
		{"a word of a free frame turned", func(m *impl.Move) { m.From.Words[100]++; m.To.Words[100] = 0 }, true},
		{"a guest that is not there", func(m *impl.Move) { m.G = 2 }, false},
		{"a guest before the first one", func(m *impl.Move) { m.G = -1 }, false},
		{"a guest behind the last one", func(m *impl.Move) { m.G = 3 }, false},
		{"no guest there", func(m *impl.Move) { m.N = 2 }, false},
		{"a guest before the first one there", func(m *impl.Move) { m.N = -1 }, false},
		{"a guest behind the last one there", func(m *impl.Move) { m.N = 3 }, false},
		{"another guest with other words", func(m *impl.Move) { m.G = 1 }, false},
		{"another guest with other words there", func(m *impl.Move) { m.N = 0 }, false},
		{"another guest with other words there, all left", func(m *impl.Move) { m.N = 0; m.Left = drawnLeft("xxxxxxxx") }, true},
		{"cores and words in and out are other ones", func(m *impl.Move) { m.To.Guests[1].C.Pc++; m.To.Guests[1].In = nil; m.To.Guests[1].Out = []int{3} }, true},
	}
	for _, c := range cases {
		checkMoveOk(t, c.name, turnedMove(handMove(), c.turn), c.want)
	}
}

// Each page that is Dirty makes a move none, whether it is left or not; those of all others may be so.
func TestMoveOkOfDirtyPages(t *testing.T) {
	for page := 0; page < 8; page++ {
		for _, left := range []string{"........", "xxxxxxxx"} {
			for _, write := range []bool{false, true} {
				m := sameMove(t, 0, 1)
				m.Left = drawnLeft(left)
				checkMoveOk(t, "no page is Dirty", m, true)
				here := turnedMove(m, func(m *impl.Move) { m.From.Guests[0].Pages[page].Dirty = true })
				here.From.Guests[0].Pages[page].Write = write
				checkMoveOk(t, "a Dirty page", here, false)
				there := turnedMove(m, func(m *impl.Move) { m.To.Guests[1].Pages[page].Dirty = true })
				checkMoveOk(t, "a Dirty page there", there, true)
				other := turnedMove(m, func(m *impl.Move) { m.From.Guests[1].Pages[page].Dirty = true; m.To.Guests[0].Pages[page].Dirty = true })
				checkMoveOk(t, "Dirty pages of others", other, true)
			}
		}
	}
}

// sameMove is a move of which nothing is left, of one guest to another one; on both hosts all pages of both are in frames of their own, and have words in them.
func sameMove(t *testing.T, g int, n int) impl.Move {
	t.Helper()
	m := impl.Move{From: emptyHost(), To: emptyHost(), G: g, N: n, Left: drawnLeft("........")}
	for _, other := range []int{g, (g + 1) % 3} {
		m.From.Guests[other] = guestAs(busyBare(), noSlots())
	}
	for _, other := range []int{n, (n + 2) % 3} {
		m.To.Guests[other] = guestAs(plainBare(), noSlots())
	}
	for page := 0; page < 8; page++ {
		m.From.Guests[g].Pages[page] = impl.Slot{Frame: page, Write: true}
		m.From.Guests[(g+1)%3].Pages[page] = impl.Slot{Frame: page + 10}
		m.To.Guests[n].Pages[page] = impl.Slot{Frame: 17 - page, Write: true}
		m.To.Guests[(n+2)%3].Pages[page] = impl.Slot{Frame: 9 - page}
		copy(m.To.Words[(17-page)*8:(18-page)*8], m.From.Words[page*8:])
	}
	checkMoveOk(t, "all pages are sent", m, true)
	return m
}

// A page that is not left must have each of its words there; of one that is left it does not matter.
func TestMoveOkOfPagesWithOtherWordsThere(t *testing.T) {
	for g := 0; g < 3; g++ {
		for n := 0; n < 3; n++ {
			m := sameMove(t, g, n)
			for at := 0; at < 64; at++ {
				here, there := cloned(m), cloned(m)
				here.From.Words[at] ^= 1
				there.To.Words[(17-at/8)*8+at%8] = 0
				for _, turned := range []impl.Move{here, there} {
					checkMoveOk(t, "a word turned", turned, false)
					for page := 0; page < 8; page++ {
						one := cloned(turned)
						one.Left[page] = true
						checkMoveOk(t, "a word turned, and a page is left", one, page == at/8)
					}
				}
			}
			for at := 64; at < 160; at++ {
				turned := cloned(m)
				turned.From.Words[at] ^= 1
				checkMoveOk(t, "a word turned of others", turned, true)
			}
		}
	}
}

func TestMoveOkOfPagesWithoutAFrame(t *testing.T) {
	m := sameMove(t, 2, 0)
	for page := 0; page < 8; page++ {
		here := turnedMove(m, func(m *impl.Move) { m.From.Guests[2].Pages[page] = impl.Slot{Frame: -1} })
		there := turnedMove(m, func(m *impl.Move) { m.To.Guests[0].Pages[page] = impl.Slot{Frame: -1} })
		for _, turned := range []impl.Move{here, there} {
			checkMoveOk(t, "a page without a frame", turned, false)
			left := turnedMove(turned, func(m *impl.Move) { m.Left[page] = true })
			checkMoveOk(t, "a page without a frame that is left", left, true)
		}
		zeros := cloned(there)
		copy(zeros.From.Words[page*8:], make([]int, 8))
		checkMoveOk(t, "a page of zeros", zeros, true)
		for k := 0; k < 8; k++ {
			checkMoveOk(t, "a page of zeros but for a word", turnedMove(zeros, func(m *impl.Move) { m.From.Words[page*8+k] = 1 }), false)
		}
		zeros = cloned(here)
		copy(zeros.To.Words[(17-page)*8:], make([]int, 8))
		checkMoveOk(t, "a page of zeros there", zeros, true)
		zeros.To.Words[(17-page)*8+page] = 1
		checkMoveOk(t, "a page of zeros there but for a word", zeros, false)
	}
}

func TestMoveOkOfRowsThatAreTooShortOrTooLong(t *testing.T) {
	m := sameMove(t, 1, 1)
	for many := 0; many <= 20; many++ {
		for _, isLeft := range []bool{false, true} {
			m.Left = slices.Repeat([]bool{isLeft}, many)
			checkMoveOk(t, "a row", m, many == 8)
		}
	}
	// What lies behind the end of the row is not looked at.
	m.Left = slices.Repeat([]bool{true}, 20)[:8]
	checkMoveOk(t, "a row with room", m, true)
	m.Left = slices.Repeat([]bool{true}, 20)[:7]
	checkMoveOk(t, "a row with room", m, false)
}

func TestMoveOkOfGuestsThatAreNotThere(t *testing.T) {
	for g := 0; g < 3; g++ {
		for n := 0; n < 3; n++ {
			m := sameMove(t, g, n)
			m.Left = drawnLeft("xxxxxxxx")
			for _, other := range numbersOfGuests() {
				here, there := cloned(m), cloned(m)
				here.G, there.N = other, other
				checkMoveOk(t, "a guest", here, isThere(m.From, other))
				checkMoveOk(t, "a guest there", there, isThere(m.To, other))
			}
		}
	}
}

// withoutDirt is a host on which no page of any guest is Dirty, but for ones that could not be.
func withoutDirt(h impl.Host) impl.Host {
	h = cloned(h)
	for g := range h.Guests {
		for page := range h.Guests[g].Pages {
			s := &h.Guests[g].Pages[page]
			s.Dirty = s.Dirty && s.Frame == -1
		}
	}
	return h
}

// brokenSides has hosts that are not right, each with a part of another one turned that nothing but the question whether it is a host looks at.
func brokenSides(h impl.Host) []impl.Host {
	list := []impl.Host{
		{Words: h.Words[:159], Guests: h.Guests},
		{Words: append(slices.Clone(h.Words), 0), Guests: h.Guests},
		{Words: h.Words, Guests: append(slices.Clone(h.Guests), impl.Guest{})},
		withGuest(h, 2, ghosts()[3]),
		withGuest(h, 2, brokenGuests()[1]),
		withGuest(h, 2, guestAs(plainBare(), drawnSlots("20"))),
		withGuest(h, 2, guestAs(plainBare(), drawnSlots("18w 18"))),
	}
	if !isThere(h, 2) {
		list = append(list, impl.Host{Words: h.Words, Guests: h.Guests[:2]})
	}
	for _, n := range noWords() {
		list = append(list, impl.Host{Words: with(h.Words, 159, n), Guests: h.Guests})
	}
	return list
}

// brokenParts has a move with one part turned: a host, a guest, or a page that is Dirty.
func brokenParts(right impl.Move) []impl.Move {
	list := []impl.Move{}
	for _, h := range brokenSides(right.From) {
		list = append(list, turnedMove(right, func(m *impl.Move) { m.From = h }))
	}
	for _, h := range brokenSides(right.To) {
		list = append(list, turnedMove(right, func(m *impl.Move) { m.To = h }))
	}
	for _, g := range numbersOfGuests() {
		if !isThere(right.From, g) {
			list = append(list, turnedMove(right, func(m *impl.Move) { m.G = g }))
		}
		if !isThere(right.To, g) {
			list = append(list, turnedMove(right, func(m *impl.Move) { m.N = g }))
		}
	}
	for _, page := range []int{0, 1, 3, 4} {
		list = append(list, turnedMove(right, func(m *impl.Move) { m.From.Guests[0].Pages[page].Dirty = true }))
	}
	return list
}

// brokenMoves has moves with one part that is not ok; with nothing left, with something, and with all.
func brokenMoves(t *testing.T) []impl.Move {
	t.Helper()
	list := []impl.Move{{}, {Left: drawnLeft("xxxxxxxx")}}
	for _, left := range []string{"........", "..x....x", "xxxxxxxx"} {
		right := turnedMove(handMove(), func(m *impl.Move) { m.Left = drawnLeft(left) })
		checkMoveOk(t, "a move by hand", right, true)
		list = append(list, brokenParts(right)...)
	}
	for many := 0; many <= 20; many++ {
		if many != 8 {
			list = append(list, turnedMove(handMove(), func(m *impl.Move) { m.Left = make([]bool, many) }))
			list = append(list, turnedMove(handMove(), func(m *impl.Move) { m.Left = slices.Repeat([]bool{true}, many) }))
		}
	}
	for _, at := range []int{0, 7, 8, 15, 24, 32, 39} {
		list = append(list, turnedMove(handMove(), func(m *impl.Move) { m.From.Words[at] ^= 1 }))
	}
	for _, at := range []int{16, 23, 24, 31, 40, 47} {
		list = append(list, turnedMove(handMove(), func(m *impl.Move) { m.To.Words[at] ^= 1 }))
	}
	return list
}

// checkNotDone looks whether nothing can be done of a move.
func checkNotDone(t *testing.T, name string, m impl.Move, acts []impl.Act) {
	t.Helper()
	for _, a := range acts {
		if then, ok := impl.MoveDo(m, a); ok || !isNothing(then) {
			t.Fatalf("%s: behind %+v %+v is %+v, %v", name, a, m, then, ok)
		}
	}
}

func TestOtherMovesAreAnswered(t *testing.T) {
	acts := append(sendActs(0, 1, 2, 3, 4, 7, -1, 8), stepAct(), impl.Act{}, impl.Act{Kind: 3})
	for _, m := range brokenMoves(t) {
		checkMoveOk(t, "one that is none", m, false)
		checkNotDone(t, "one that is none", m, acts)
		checkNotEnded(t, "one that is none", m)
	}
}

func checkNotEnded(t *testing.T, name string, m impl.Move) {
	t.Helper()
	if here, there, ok := impl.MoveEnd(m); ok || !isNothing(here) || !isNothing(there) {
		t.Fatalf("%s: %+v ends with %+v and %+v, %v", name, m, here, there, ok)
	}
}

// Hosts that are not right, on either side of a move that would be one if they were.
func TestMovesOfOtherHosts(t *testing.T) {
	right := drawnHost(letters, [3]string{"0w 1", "2wd", "1 3w"})
	for _, h := range otherHosts() {
		h = withoutDirt(h)
		if impl.HostOk(h) {
			continue
		}
		for g := 0; g < 3; g++ {
			here := impl.Move{From: h, To: right, G: g, N: 0, Left: drawnLeft("xxxxxxxx")}
			there := impl.Move{From: withoutDirt(right), To: h, G: 0, N: g, Left: drawnLeft("xxxxxxxx")}
			for _, m := range []impl.Move{here, there} {
				checkMoveOk(t, "another host", m, false)
				checkNotDone(t, "another host", m, []impl.Act{stepAct(), sendAct(g)})
				checkNotEnded(t, "another host", m)
			}
		}
	}
}

func checkBegin(t *testing.T, name string, from impl.Host, to impl.Host, g int, want impl.Move, wantOk bool) {
	t.Helper()
	got, ok := impl.MoveBegin(from, to, g)
	if ok != wantOk {
		t.Fatalf("%s: a move of guest %d begins: %v, not %v", name, g, ok, wantOk)
	}
	checkSame(t, name+": a move that begins", got, want)
}

func TestMoveBeginByHand(t *testing.T) {
	cases := []struct {
		name   string
		from   [3]string
		to     [3]string
		g      int
		n      int
		behind [3]string
	}{
		{"one alone, to nobody", [3]string{"0w 1wd"}, [3]string{}, 0, 0, [3]string{"0w 1w"}},
		{"one alone, to one", [3]string{"0w 1wd"}, [3]string{"0w 1wd"}, 0, 1, [3]string{"0w 1w"}},
		{"one alone, behind two", [3]string{"0w 1wd"}, [3]string{"0w 1wd", "2d"}, 0, 2, [3]string{"0w 1w"}},
		{"one alone, before one", [3]string{"", "3d"}, [3]string{"", "4wd"}, 1, 0, [3]string{"", "3"}},
		{"one alone, before two", [3]string{"", "3d"}, [3]string{"", "4wd", "5"}, 1, 0, [3]string{"", "3"}},
		{"one alone, between two", [3]string{"", "", "5 6d 6"}, [3]string{"7w", "", "8w 9wd"}, 2, 1, [3]string{"", "", "5 6 6"}},
		{"one alone, before the last one", [3]string{"", "", "5"}, [3]string{"", "", "8w 9wd"}, 2, 0, [3]string{"", "", "5"}},
		{"one of two", [3]string{"0wd", "1wd"}, [3]string{}, 1, 0, [3]string{"0wd", "1w"}},
		{"one of two in one frame", [3]string{"0d 1d", "1d 0d"}, [3]string{}, 0, 0, [3]string{"0 1", "1d 0d"}},
		{"the last one of all", [3]string{"0wd", "1wd", "2wd 3d - 4"}, [3]string{"0w"}, 2, 1, [3]string{"0wd", "1wd", "2w 3 - 4"}},
		{"the first one of all", [3]string{"0wd", "1wd", "2wd 3d"}, [3]string{"", "2"}, 0, 0, [3]string{"0w", "1wd", "2wd 3d"}},
		{"one without frames", [3]string{"-", "1wd"}, [3]string{"1wd"}, 0, 1, [3]string{"-", "1wd"}},
		{"all pages", [3]string{"0wd 1wd 2wd 3wd 4wd 5wd 6wd 7wd"}, [3]string{"-"}, 0, 1, [3]string{"0w 1w 2w 3w 4w 5w 6w 7w"}},
	}
	bares := []impl.Bare{plainBare(), busyBare(), mixedBare(3)}
	for _, c := range cases {
		from, to := drawnHost(letters, c.from), drawnHost("..ab", c.to)
		want := impl.Move{From: drawnHost(letters, c.behind), To: cloned(to), G: c.g, N: c.n, Left: drawnLeft("xxxxxxxx")}
		want.To.Guests[c.n] = guestAs(bares[c.g], noSlots())
		checkBegin(t, c.name, from, to, c.g, want, true)
	}
}

// wantBegin looks the guest up from outside, and puts it there without its memory.
func wantBegin(from impl.Host, to impl.Host, g int) (impl.Move, bool) {
	n := slices.IndexFunc(to.Guests, func(guest impl.Guest) bool { return !guest.Live })
	if !isThere(from, g) || n == -1 {
		return impl.Move{}, false
	}
	m := cloned(impl.Move{From: from, To: to, G: g, N: n, Left: drawnLeft("xxxxxxxx")})
	m.To.Guests[n] = guestAs(wantView(from, g), noSlots())
	for page := range m.From.Guests[g].Pages {
		m.From.Guests[g].Pages[page].Dirty = false
	}
	return m, true
}

// pairsOfHosts has hosts of all kinds, each with another one of all kinds to which its guests may move.
func pairsOfHosts() [][2]impl.Host {
	pairs := [][2]impl.Host{}
	from, to := sharingHosts(), slices.Concat(alikeHosts(), givenHosts(), crowdedHosts())
	for k, h := range from {
		pairs = append(pairs, [2]impl.Host{h, to[k*7%len(to)]})
	}
	return pairs
}

func TestMoveBeginOfManyHosts(t *testing.T) {
	kinds, failed := [4][4]int{}, 0
	for _, pair := range pairsOfHosts() {
		from, to := pair[0], pair[1]
		kinds[len(guestsOf(from))][len(guestsOf(to))]++
		for _, g := range numbersOfGuests() {
			want, ok := wantBegin(from, to, g)
			checkBegin(t, "many hosts", from, to, g, want, ok)
			if isThere(from, g) && !ok {
				failed++
			}
		}
	}
	for many, row := range kinds {
		if slices.Min(row[:]) == 0 {
			t.Errorf("of hosts with %d guests so many are beside ones with none, one, two and all: %v", many, row)
		}
	}
	if failed < 100 {
		t.Errorf("only %d guests did not begin to move, as all were there", failed)
	}
}

func TestMoveBeginOfGuestsThatAreNotThere(t *testing.T) {
	for here := 0; here < 8; here++ {
		for there := 0; there < 8; there++ {
			from, to := emptyHost(), emptyHost()
			first := -1
			for g := 2; g >= 0; g-- {
				if here>>g&1 != 0 {
					from.Guests[g] = guestAs(busyBare(), drawnSlots("5 6d"))
				}
				if there>>g&1 != 0 {
					to.Guests[g] = plainGuest()
				} else {
					first = g
				}
			}
			for _, g := range numbersOfGuests() {
				want, ok := impl.Move{}, isThere(from, g) && first >= 0
				if ok {
					want = impl.Move{From: cloned(from), To: withGuest(to, first, guestAs(busyBare(), noSlots())), G: g, N: first, Left: drawnLeft("xxxxxxxx")}
					want.From.Guests[g].Pages[1].Dirty = false
				}
				checkBegin(t, "guests there and not there", from, to, g, want, ok)
			}
		}
	}
}

// All that a core may be is that of the guest there, too, before it did anything.
func TestMoveBeginOfAllKindsOfMachines(t *testing.T) {
	for _, b := range machines() {
		h, g, ok := impl.HostBoot(handHost(), b)
		if !ok {
			t.Fatalf("%+v was not booted", b)
		}
		want, _ := wantBegin(h, handHost(), g)
		checkBegin(t, "a machine", h, handHost(), g, want, true)
	}
}

func TestMovesOfOtherHostsDoNotBegin(t *testing.T) {
	right := drawnHost(letters, [3]string{"0w 1", "", "1 3w"})
	for _, h := range otherHosts() {
		for g := 0; g < 3; g++ {
			checkBegin(t, "another host", h, right, g, impl.Move{}, false)
			checkBegin(t, "to another host", right, h, g, impl.Move{}, false)
			checkBegin(t, "another host to itself", h, h, g, impl.Move{}, false)
			checkNotMoved(t, "another host", h, right, g, nil)
			checkNotMoved(t, "to another host", right, h, g, nil)
		}
	}
	checkBegin(t, "to a full host", right, fullHost(20), 0, impl.Move{}, false)
}

func checkNotMoved(t *testing.T, name string, from impl.Host, to impl.Host, g int, acts []impl.Act) {
	t.Helper()
	here, there, n, steps, ok := impl.MoveAll(from, to, g, acts)
	if ok || n != -1 || steps != 0 || !isNothing(here) || !isNothing(there) {
		t.Fatalf("%s: guest %d moved as %d, by %d steps, %v:\n%+v\n%+v", name, g, n, steps, ok, here, there)
	}
}

// A host moves a guest to a copy of itself: two of one guest are there then, on two hosts, and without it there is none here.
func TestMovesToTheSameHostByHand(t *testing.T) {
	h := drawnHost(letters, [3]string{"0w 1d", "", "1 2wd"})
	want := impl.Move{
		From: drawnHost(letters, [3]string{"0w 1", "", "1 2wd"}), To: cloned(h),
		G: 0, N: 1, Left: drawnLeft("xxxxxxxx"),
	}
	want.To.Guests[1] = guestAs(plainBare(), noSlots())
	checkBegin(t, "the same host", h, h, 0, want, true)
	there := cloned(h)
	there.Guests[1] = guestAs(plainBare(), drawnSlots("3w 4w"))
	copy(there.Words[24:40], h.Words[:16])
	checkMoved(t, "the same host", h, h, 0, nil, moved{dropped(t, h, 0), there, 1, 0})
	// Frames that a guest gave back are taken there as well.
	twice := dropped(t, h, 2)
	there = cloned(twice)
	there.Guests[1] = guestAs(plainBare(), drawnSlots("2w 3w"))
	copy(there.Words[16:32], h.Words[:16])
	checkMoved(t, "the same host, without another guest", twice, twice, 0, sendActs(0, 1, 0), moved{dropped(t, twice, 0), there, 1, 0})
}

// checkDo looks at one thing that happens.
func checkDo(t *testing.T, name string, m impl.Move, a impl.Act, want impl.Move, wantOk bool) {
	t.Helper()
	checkMoveOk(t, name, m, true)
	got, ok := impl.MoveDo(m, a)
	if ok != wantOk {
		t.Fatalf("%s: %+v is done: %v, not %v", name, a, ok, wantOk)
	}
	checkSame(t, name+": a move behind something", got, want)
}

// sendHere has four pages with words, in frames of all kinds, two of zeros in a frame, and two without one.
func sendHere() impl.Host {
	return drawnHost("abc.d.", [3]string{"0w 1 2 3w 4w 5", "2 5d 9wd"})
}

func TestMoveDoSendsPagesByHand(t *testing.T) {
	cases := []struct {
		name   string
		there  [3]string
		page   int
		behind [3]string
	}{
		{"to no frame", [3]string{"0w", "-"}, 0, [3]string{"0w", "1w"}},
		{"to no frame, the first ones are taken", [3]string{"0w 1wd 2d 3", "- 4w"}, 0, [3]string{"0w 1wd 2d 3", "5w 4w"}},
		{"to no frame, one is free between others", [3]string{"0w 1wd 3", "- 4w"}, 0, [3]string{"0w 1wd 3", "2w 4w"}},
		{"a page that may not be written here", [3]string{"", "3w"}, 1, [3]string{"", "3w 0w"}},
		{"a page in a frame of two guests here", [3]string{"", "3w"}, 2, [3]string{"", "3w - 0w"}},
		{"to a frame that may be written", [3]string{"0w", "6w 7w"}, 1, [3]string{"0w", "6w 7w"}},
		{"to a frame that may not be written", [3]string{"0w", "6w 7"}, 1, [3]string{"0w", "6w 7w"}},
		{"to a Dirty page that may be written", [3]string{"0w", "6w 7wd"}, 1, [3]string{"0w", "6w 7wd"}},
		{"to a Dirty page that may not be written", [3]string{"0w", "6w 7d"}, 1, [3]string{"0w", "6w 7wd"}},
		{"to a frame that another guest has", [3]string{"0w 7d", "6w 7"}, 1, [3]string{"0w 7d", "6w 1w"}},
		{"to a frame that another page has", [3]string{"0w", "7 7"}, 1, [3]string{"0w", "7 1w"}},
		{"to a frame that two others have", [3]string{"0w 7", "7 7"}, 0, [3]string{"0w 7", "1w 7"}},
		{"a Dirty page to a frame that another guest has", [3]string{"7", "- - 7d"}, 2, [3]string{"7", "- - 0wd"}},
		{"to the last frame", [3]string{"0w 1w 2w 3w 4w 5w 6w 7w", "- 10w 11w 12w 13w 14w", "8w 9w 15w 16w 17w 18w"}, 0, [3]string{"0w 1w 2w 3w 4w 5w 6w 7w", "19w 10w 11w 12w 13w 14w", "8w 9w 15w 16w 17w 18w"}},
		{"zeros to no frame", [3]string{"0w", "1w"}, 3, [3]string{"0w", "1w"}},
		{"zeros without a frame here", [3]string{"0w", "1w"}, 7, [3]string{"0w", "1w"}},
		{"zeros to a frame that may be written", [3]string{"0w", "1w 2w 3 4w"}, 3, [3]string{"0w", "1w 2w 3 -"}},
		{"zeros to a frame that may not be written", [3]string{"0w", "1w 2w 3 4"}, 3, [3]string{"0w", "1w 2w 3 -"}},
		{"zeros to a Dirty page", [3]string{"0w", "1w 2w 3 4wd"}, 3, [3]string{"0w", "1w 2w 3 -"}},
		{"zeros to a frame that another guest has", [3]string{"0w 4", "1w 2w 3 4"}, 3, [3]string{"0w 4", "1w 2w 3 -"}},
		{"zeros to a frame that another page has", [3]string{"0w", "4 2w 3 4d"}, 3, [3]string{"0w", "4 2w 3 -"}},
		{"zeros without a frame here to a frame", [3]string{"0w", "1w - - - - - 5w 6w"}, 6, [3]string{"0w", "1w - - - - - - 6w"}},
		{"zeros that may not be written here", [3]string{"0w", "- - - - - 5w"}, 5, [3]string{"0w", "-"}},
	}
	for _, c := range cases {
		m := impl.Move{From: sendHere(), To: drawnHost("....xyz", c.there), G: 0, N: 1, Left: drawnLeft("xxxxxxxx")}
		want := cloned(m)
		want.To.Guests = drawnHost("", c.behind).Guests
		want.Left[c.page] = false
		if s := want.To.Guests[1].Pages[c.page]; s.Frame >= 0 {
			copy(want.To.Words[s.Frame*8:s.Frame*8+8], m.From.Words[m.From.Guests[0].Pages[c.page].Frame*8:])
		}
		checkDo(t, c.name, m, sendAct(c.page), want, true)
		// It is the same once more, whether it was left or not.
		checkDo(t, c.name+", twice", want, sendAct(c.page), want, true)
	}
}

// A page that was sent and is in a frame that it must not write is sent to another one all the same, if there is one.
func TestMoveDoSendsPagesThatAreNotLeftByHand(t *testing.T) {
	m := handMove()
	m.To = withSlot(m.To, 0, 2, impl.Slot{Frame: 5})
	want := cloned(m)
	want.To.Guests[1].Pages[4] = impl.Slot{Frame: 0, Write: true}
	copy(want.To.Words[:8], m.To.Words[40:48])
	checkDo(t, "a page in a frame of two", m, sendAct(4), want, true)
	checkDo(t, "a page in a frame of its own", m, sendAct(0), m, true)
	want = cloned(m)
	want.To = withSlot(withSlot(want.To, 1, 1, impl.Slot{Frame: 0, Write: true}), 0, 1, impl.Slot{Frame: 3})
	copy(want.To.Words[:8], m.To.Words[24:32])
	checkDo(t, "another page in a frame of two", m, sendAct(1), want, true)
	checkDo(t, "a page without a frame", m, sendAct(2), m, true)
	zeros := turnedMove(m, func(m *impl.Move) { m.To.Guests[1].Pages[2] = impl.Slot{Frame: 1, Write: true} })
	checkDo(t, "a page of zeros in a frame", zeros, sendAct(2), m, true)
}

// fullMove is a move to a host without a free frame. Of the guest there pages 0, 1 and 5 are in frames of their own, the second one of which may not be written; page 2 is in one of another guest, pages 3 and 4 are in one together, and the others have none.
func fullMove() impl.Move {
	return impl.Move{
		From: drawnHost(letters, [3]string{"", "12w 13w 14w 15w 16w 17w 18w 19w"}),
		To: drawnHost("", [3]string{
			"0w 1 2w 3w 4w 5w 6w 7w", "8w 9w 10w 11w 12w 13w 14w 15wd", "16w 17 1 18 18d 19wd",
		}),
		G: 1, N: 2, Left: drawnLeft("xxxxxxxx"),
	}
}

func TestMoveDoSendsPagesToAFullHostByHand(t *testing.T) {
	m := fullMove()
	if free := impl.HostFree(m.To); len(free) != 0 {
		t.Fatalf("%v are free", free)
	}
	for _, page := range []int{2, 3, 4, 6, 7} {
		checkDo(t, "no frame is free", m, sendAct(page), m, false)
	}
	for _, page := range []int{0, 1, 5} {
		checkDo(t, "a frame of its own", m, sendAct(page), sentTo(m, page, m.To.Guests[2].Pages[page].Frame), true)
	}
}

// sentTo is a move behind the sending of a page to a frame.
func sentTo(m impl.Move, page int, frame int) impl.Move {
	m = cloned(m)
	m.To.Guests[m.N].Pages[page].Frame = frame
	m.To.Guests[m.N].Pages[page].Write = true
	copy(m.To.Words[frame*8:frame*8+8], wantView(m.From, m.G).Mem[page*8:])
	m.Left[page] = false
	return m
}

// Zeros need no frame, and give the one back that they had, which another page gets then; who is left alone in one writes there.
func TestMoveDoSendsZerosToAFullHostByHand(t *testing.T) {
	for _, page := range []int{0, 1, 2, 3, 5, 6} {
		m := fullMove()
		copy(m.From.Words[(12+page)*8:], make([]int, 8))
		zeros := cloned(m)
		zeros.To.Guests[2].Pages[page] = impl.Slot{Frame: -1}
		zeros.Left[page] = false
		checkDo(t, "zeros", m, sendAct(page), zeros, true)
		checkDo(t, "zeros, twice", zeros, sendAct(page), zeros, true)
		frame := fullMove().To.Guests[2].Pages[page].Frame
		switch page {
		case 0, 1, 5:
			then := sentTo(zeros, 7, frame)
			checkDo(t, "a page behind zeros", zeros, sendAct(7), then, true)
			checkDo(t, "another page behind it", then, sendAct(4), then, false)
		case 3:
			checkDo(t, "a page that is alone then", zeros, sendAct(4), sentTo(zeros, 4, frame), true)
			checkDo(t, "another page", zeros, sendAct(7), zeros, false)
		case 2, 6:
			checkDo(t, "another page", zeros, sendAct(7), zeros, false)
		}
	}
}

// movedStore is a move of a guest that stores to page 1 (storeHost), behind the sending of some pages.
func movedStore(t *testing.T, g int, pages ...int) impl.Move {
	t.Helper()
	m, ok := impl.MoveBegin(storeHost(t), emptyHost(), g)
	if !ok {
		t.Fatalf("guest %d does not begin to move", g)
	}
	for _, page := range pages {
		m, ok = impl.MoveDo(m, sendAct(page))
		if !ok {
			t.Fatalf("page %d was not sent", page)
		}
	}
	return m
}

func TestMoveDoStepsByHand(t *testing.T) {
	cases := []struct {
		sent  []int
		frame int
	}{
		{nil, 0}, {[]int{0}, 1}, {[]int{1}, 0}, {[]int{0, 1}, 1}, {[]int{7, 6, 5, 4, 3, 2, 1, 0}, 0}, {[]int{1, 0, 1}, 0},
	}
	for g := 0; g < 3; g++ {
		for _, c := range cases {
			m := movedStore(t, g, c.sent...)
			// The page is copied and written; what was written is left, and not Dirty any more.
			wrote := cloned(m)
			wrote.From = stored(m.From, g, 2, 100)
			wrote.From.Guests[g].Pages[1].Dirty = false
			wrote.Left[1] = true
			checkDo(t, "a step that writes", m, stepAct(), wrote, true)
			added := behindStep(wrote, func(core *impl.Core) { core.Regs[1], core.Pc = 101, 2 })
			checkDo(t, "a step that writes nothing", wrote, stepAct(), added, true)
			jumped := behindStep(added, func(core *impl.Core) { core.Pc = 0 })
			checkDo(t, "another step that writes nothing", added, stepAct(), jumped, true)
			sent := sentTo(jumped, 1, c.frame)
			checkDo(t, "a page that is sent again", jumped, sendAct(1), sent, true)
			again := behindStep(sent, func(core *impl.Core) { core.Pc = 1 })
			again.From.Words[16] = 101
			again.Left[1] = true
			checkDo(t, "a page that is written again", sent, stepAct(), again, true)
			checkDo(t, "a page that is sent once more", again, sendAct(1), sentTo(again, 1, c.frame), true)
		}
	}
}

// A word that is written as it was makes its page left all the same.
func TestP24AWordThatIsWrittenAsItWasIsSentAgain(t *testing.T) {
	m := movedStore(t, 1, 1, 0)
	m.From.Guests[1].C.Regs[1] = 1
	want := cloned(m)
	want.From = stored(m.From, 1, 2, 1)
	want.From.Guests[1].Pages[1].Dirty = false
	want.Left[1] = true
	checkDo(t, "the same word", m, stepAct(), want, true)
}

// The number of a page does not matter to a step.
func TestMoveDoStepsWithNumbersOfPages(t *testing.T) {
	for _, m := range []impl.Move{handMove(), movedStore(t, 0, 1), movedStore(t, 2)} {
		want, ok := wantMoveDo(m, stepAct())
		for _, page := range []int{math.MinInt, -2, -1, 0, 1, 5, 7, 8, 9, 64, 1 << 32, math.MaxInt} {
			checkDo(t, "a step", m, impl.Act{Kind: impl.MoveStep, Page: page}, want, ok)
		}
	}
}

func TestMoveDoOfOtherThings(t *testing.T) {
	full := fullMove()
	for _, m := range []impl.Move{handMove(), movedStore(t, 1), full, sameMove(t, 0, 2)} {
		checkMoveOk(t, "a move", m, true)
		acts := []impl.Act{}
		for _, page := range []int{math.MinInt, -8, -2, -1, 8, 9, 15, 16, 64, 1 << 32, math.MaxInt} {
			acts = append(acts, sendAct(page))
		}
		for _, kind := range []int{math.MinInt, -2, -1, 0, 3, 4, 5, 1 << 32, 1<<32 + 1, 1<<32 + 2, math.MaxInt} {
			for page := -1; page <= 8; page++ {
				acts = append(acts, impl.Act{Kind: kind, Page: page})
			}
		}
		checkNotDone(t, "other things", m, acts)
	}
}

// behindStep is a move of a guest behind a step that turned its core alone.
func behindStep(m impl.Move, turn func(c *impl.Core)) impl.Move {
	m = cloned(m)
	turn(&m.From.Guests[m.G].C)
	return m
}

func trapOf(c impl.Core, cause int, bad int, saved int) impl.Core {
	return trapTo(impl.Bare{C: c}, cause, bad, saved).C
}

func TestMoveDoStepsThatWriteNothingByHand(t *testing.T) {
	m := movedStore(t, 1, 0, 1, 3)
	stopped := behindStep(m, func(c *impl.Core) { c.Stopped = true; c.Timer = 1 })
	checkDo(t, "a guest that has stopped", stopped, stepAct(), stopped, true)
	ticks := behindStep(m, func(c *impl.Core) { c.On = true; c.Timer = 1; c.Vector = 9 })
	want := behindStep(ticks, func(c *impl.Core) {
		c.Timer = 0
		*c = trapOf(*c, impl.CauseTick, 0, 0)
	})
	checkDo(t, "a guest that is interrupted", ticks, stepAct(), want, true)
	calls := behindStep(m, func(c *impl.Core) { c.Vector = 9 })
	calls.From.Words[0] = impl.InsWord(impl.Ins{Op: impl.OpCall})
	calls.To.Words[0] = calls.From.Words[0]
	want = behindStep(calls, func(c *impl.Core) { *c = trapOf(*c, impl.CauseCall, 0, 1) })
	checkDo(t, "a guest that calls", calls, stepAct(), want, true)
	may := behindStep(m, func(c *impl.Core) { c.Vector, c.User = 9, true })
	may.From.Words[0] = impl.InsWord(impl.Ins{Op: impl.OpOut})
	may.To.Words[0] = may.From.Words[0]
	want = behindStep(may, func(c *impl.Core) { *c = trapOf(*c, impl.CauseMay, 0, 0) })
	checkDo(t, "users that may not", may, stepAct(), want, true)
	out := cloned(may)
	out.From.Guests[1].C.User = false
	want = behindStep(out, func(c *impl.Core) { c.Pc = 1 })
	want.From.Guests[1].Out = append(want.From.Guests[1].Out, 8)
	checkDo(t, "a word that goes out here", out, stepAct(), want, true)
	// By a table in page 2, which is all zeros, no address leads anywhere: page 2 gets a frame for it neither.
	fault := behindStep(m, func(c *impl.Core) { c.Root, c.Vector, c.Pc = 2, 9, 3 })
	want = behindStep(fault, func(c *impl.Core) { *c = trapOf(*c, impl.CauseFault, 3, 3) })
	checkDo(t, "a fault", fault, stepAct(), want, true)
	// A page that is read gets a frame here, and is not left for that.
	loads := behindStep(m, func(c *impl.Core) { c.Regs[0] = 27 })
	loads.From.Words[0] = impl.InsWord(impl.Ins{Op: impl.OpLoad, A: 1, N: 0})
	loads.To.Words[0] = loads.From.Words[0]
	want = behindStep(loads, func(c *impl.Core) { c.Pc, c.Regs[1] = 1, 0 })
	want.From.Guests[1].Pages[3] = impl.Slot{Frame: 2, Write: true}
	copy(want.From.Words[16:], make([]int, 8))
	checkDo(t, "a page that is filled", loads, stepAct(), want, true)
}

func TestMoveDoStepsWithoutAFrameByHand(t *testing.T) {
	for g := 0; g < 3; g++ {
		for free := 0; free <= 1; free++ {
			from := writersHost(free)
			from.Guests[g].C.Timer = 5
			m, ok := impl.MoveBegin(from, handHost(), g)
			if !ok || m.N != 1 {
				t.Fatalf("guest %d moves as %d, %v", g, m.N, ok)
			}
			m, _ = impl.MoveDo(m, sendAct(1))
			want := cloned(m)
			if free == 1 {
				want.From = wrote(m.From, g, 19, 0)
				want.From.Guests[g].C.Timer = 4
				want.From.Guests[g].Pages[1].Dirty = false
				want.Left[1] = true
			}
			checkDo(t, "a full host", m, stepAct(), want, free == 1)
		}
	}
	// Pages can be sent from there all the same.
	m, _ := impl.MoveBegin(writersHost(0), handHost(), 2)
	want := cloned(m)
	want.To.Guests[1].Pages[0] = impl.Slot{Frame: 1, Write: true}
	copy(want.To.Words[8:16], m.From.Words[16:24])
	want.Left[0] = false
	checkDo(t, "a full host", m, sendAct(0), want, true)
}

// wantMoveDo is the second way in which something happens.
func wantMoveDo(m impl.Move, a impl.Act) (impl.Move, bool) {
	switch {
	case a.Kind == 1:
		return wantMoveStep(m)
	case a.Kind == 2 && isIn(a.Page, 7):
		return wantMoveSend(m, a.Page)
	}
	return impl.Move{}, false
}

// wantMoveStep tells the page that is written by the place that the step writes, and not by what is Dirty.
func wantMoveStep(m impl.Move) (impl.Move, bool) {
	m = cloned(m)
	at := placeWritten(m.From, m.G)
	then, ok := wantGuestStep(m.From, m.G)
	if !ok {
		return m, false
	}
	m.From = then
	if at >= 0 {
		m.Left[at>>3] = true
		m.From.Guests[m.G].Pages[at>>3].Dirty = false
	}
	return m, true
}

// wantMoveSend looks for the frame first, and writes the words of the page into it at once.
func wantMoveSend(m impl.Move, page int) (impl.Move, bool) {
	m = cloned(m)
	words := wantView(m.From, m.G).Mem[page*8 : page*8+8]
	s := &m.To.Guests[m.N].Pages[page]
	alone := s.Frame >= 0 && wantTakers(m.To)[s.Frame] == 1
	free := wantFree(m.To)
	if isZeros(words) {
		*s = impl.Slot{Frame: -1}
		m.Left[page] = false
		return m, true
	}
	if !alone && len(free) == 0 {
		return m, false
	}
	if !alone {
		s.Frame = free[0]
	}
	s.Write = true
	copy(m.To.Words[s.Frame*8:], words)
	m.Left[page] = false
	return m, true
}

// mixedMove has a guest that moves, in the middle of it: pages of both guests are in slots of all kinds, many with the same words, some of which are left all the same. Some hosts are full.
func mixedMove(seed int) (impl.Move, bool) {
	d := &dice{seed*13 + 5}
	m := impl.Move{From: alikeHost(seed), To: alikeHost(seed + d.roll(2)), Left: make([]bool, 8)}
	here, there := guestsOf(m.From), guestsOf(m.To)
	if len(here) == 0 || len(there) == 0 {
		return m, false
	}
	m.G, m.N = here[d.roll(len(here))], there[d.roll(len(there))]
	for range d.roll(6) {
		m.To.Words[d.roll(160)] ^= 1
	}
	if d.roll(3) == 0 {
		m.To = crowded(m.To, m.N, d.roll(8), d.roll(3))
	}
	if d.roll(3) == 0 {
		m.From = crowded(m.From, m.G, d.roll(8), d.roll(2))
	}
	if d.roll(2) == 0 {
		slices.Reverse(m.To.Guests[m.N].Pages)
	}
	a, b := wantView(m.From, m.G).Mem, wantView(m.To, m.N).Mem
	for page := range m.Left {
		m.From.Guests[m.G].Pages[page].Dirty = false
		m.Left[page] = !slices.Equal(a[page*8:page*8+8], b[page*8:page*8+8]) || d.roll(3) == 0
	}
	return m, true
}

func mixedMoves() []impl.Move {
	list := []impl.Move{}
	for seed := 1; seed <= 500; seed++ {
		if m, ok := mixedMove(seed); ok {
			list = append(list, m)
		}
	}
	return list
}

// reachMoves has moves of guests whose next step comes to pages of all kinds, some of which lack a frame for it, behind the sending of all pages.
func reachMoves(t *testing.T) []impl.Move {
	t.Helper()
	list := []impl.Move{}
	places := placesToGo()
	for k, r := range reaches() {
		g, page := k%3, k/3%8
		from := reachHost(r, g, page)
		if k%2 == 0 {
			from = crowded(from, g, page, 0)
		}
		// Those that lack a frame are few.
		if k%83 != 0 && (k%8 != 0 || wantExit(from, g).Why < impl.ExitFill) {
			continue
		}
		if m, ok := allSent(t, journey{from: from, to: places[k%4], g: g}); ok {
			list = append(list, m)
		}
	}
	return list
}

// someMoves has moves of all kinds.
func someMoves(t *testing.T) []impl.Move {
	t.Helper()
	return append(mixedMoves(), reachMoves(t)...)
}

// sideOf tells of which kind a page is: without a frame, in one of its own that may be written, or may not, or in one that others have, too.
func sideOf(h impl.Host, g int, page int) int {
	s := h.Guests[g].Pages[page]
	switch {
	case s.Frame == -1:
		return 0
	case s.Write:
		return 1
	case wantTakers(h)[s.Frame] == 1:
		return 2
	}
	return 3
}

func TestMixedMovesAreOfAllKinds(t *testing.T) {
	sides, lefts := [4][4]int{}, [2]int{}
	for _, m := range mixedMoves() {
		checkMoveOk(t, "a mixed move", m, true)
		for page, isLeft := range m.Left {
			if !isLeft {
				sides[sideOf(m.From, m.G, page)][sideOf(m.To, m.N, page)]++
				lefts[0]++
			} else {
				lefts[1]++
			}
		}
	}
	for kind, row := range sides {
		if slices.Min(row[:]) < 5 {
			t.Errorf("pages of kind %d here that are not left are of so many kinds there: %v", kind, row)
		}
	}
	if min(lefts[0], lefts[1]) < 500 {
		t.Errorf("%d pages are not left, and %d are", lefts[0], lefts[1])
	}
}

// allActs has all that can happen, and some that cannot.
func allActs() []impl.Act {
	return append(sendActs(0, 1, 2, 3, 4, 5, 6, 7, -1, 8), stepAct(), impl.Act{Kind: 3, Page: 1})
}

func TestMoveDoOfMixedMoves(t *testing.T) {
	sends, steps := [2]int{}, [2]int{}
	for _, m := range someMoves(t) {
		for _, a := range allActs() {
			want, ok := wantMoveDo(m, a)
			checkDo(t, "a mixed move", m, a, want, ok)
			count := 0
			if ok {
				count = 1
			}
			if a.Kind == impl.MoveStep {
				steps[count]++
			} else if isIn(a.Page, 7) {
				sends[count]++
			}
		}
	}
	if slices.Min(sends[:]) < 100 || slices.Min(steps[:]) < 30 {
		t.Errorf("so many pages were not sent and sent: %v; so many steps were not done and done: %v", sends, steps)
	}
}

// mixedActs has steps, sends and other things that follow from the seed alone.
func mixedActs(seed int, many int) []impl.Act {
	d := &dice{seed*3 + 1}
	acts := []impl.Act{}
	for len(acts) < many {
		switch d.roll(8) {
		case 0, 1, 2:
			acts = append(acts, sendAct(d.roll(8)))
		case 3:
			acts = append(acts, impl.Act{Kind: d.roll(5) - 1, Page: d.roll(12) - 2})
		default:
			acts = append(acts, stepAct())
		}
	}
	return acts
}

// runners has hosts with guests that run for long, and write to many pages; with enough frames and with few.
func runners(t *testing.T) []impl.Host {
	t.Helper()
	list := slices.Concat(knownHosts(t), alikeRuns(t), fewFrames(t)[:20], roomyHosts(t))
	for k, h := range cloneRuns(t) {
		if k%4 == 0 {
			list = append(list, h)
		}
	}
	for k, h := range busyReaches() {
		list = append(list, h, crowded(cloned(h), 1, 1, k%2))
	}
	return list
}

// placesToGo has hosts to which guests can move: empty ones, with others, with pages that are alike, and with few free frames.
func placesToGo() []impl.Host {
	list := []impl.Host{impl.HostNew(0), emptyHost(), handHost(), hostWithRoom(0, 4), hostWithRoom(1, 4), hostWithRoom(2, 7), hostWithRoom(1, 5)}
	for seed := 1; seed <= 40; seed++ {
		if h := alikeHost(seed); len(guestsOf(h)) < 3 {
			list = append(list, h)
		}
	}
	return list
}

// journey is a guest that is to move, and what happens meanwhile.
type journey struct {
	from impl.Host
	to   impl.Host
	g    int
	acts []impl.Act
}

// journeys has guests of all hosts of runners, each to two places, with many things that happen, few and none.
func journeys(t *testing.T) []journey {
	t.Helper()
	list := []journey{}
	places := placesToGo()
	for k, h := range runners(t) {
		for _, g := range guestsOf(h) {
			for part := 0; part < 2; part++ {
				seed := k*6 + g*2 + part
				list = append(list, journey{h, places[seed%len(places)], g, mixedActs(seed, []int{100, 40, 7, 0, 70}[seed%5])})
			}
		}
	}
	return list
}

func TestMoveDoOneThingAfterTheOther(t *testing.T) {
	done, failed := 0, 0
	for k, j := range journeys(t) {
		if k%3 != 0 {
			continue
		}
		m, ok := impl.MoveBegin(j.from, j.to, j.g)
		if !ok {
			t.Fatalf("guest %d of %+v does not begin to move", j.g, j.from)
		}
		for _, a := range j.acts {
			want, ok := wantMoveDo(m, a)
			checkDo(t, "one thing after the other", m, a, want, ok)
			if !ok {
				failed++
				continue
			}
			m = want
			done++
		}
	}
	if min(done, failed) < 500 {
		t.Errorf("%d things were done, %d were not", done, failed)
	}
}

// checkHappened looks at something that happens from outside alone, and tells whether it was done.
func checkHappened(t *testing.T, m impl.Move, a impl.Act) (impl.Move, bool) {
	t.Helper()
	then, ok := impl.MoveDo(m, a)
	if !ok && isNothing(then) {
		if a.Kind == impl.MoveStep || a.Kind == impl.MoveSend && isIn(a.Page, 7) {
			t.Fatalf("behind %+v there is no move", a)
		}
		return m, false
	}
	checkMoveOk(t, "behind something", then, true)
	before, _ := impl.HostView(m.From, m.G)
	seen, there := impl.HostView(then.From, then.G)
	if !there || then.G != m.G || then.N != m.N {
		t.Fatalf("guest %d moves as %d, and behind %+v guest %d as %d", m.G, m.N, a, then.G, then.N)
	}
	if ok && a.Kind == impl.MoveStep {
		before = impl.BareStep(before)
	}
	checkBare(t, "a guest that moves", seen, before)
	checkSameViews(t, "what moves", m.From, then.From, m.G)
	checkSameViews(t, "what moves", m.To, then.To, m.N)
	if !ok {
		checkSame(t, "a move behind what was not done", then, m)
	}
	return then, ok
}

func TestP24WhateverIsWrittenIsSentAgain(t *testing.T) {
	for _, m := range someMoves(t) {
		for _, a := range allActs() {
			checkHappened(t, m, a)
		}
	}
	done, again := 0, 0
	for _, j := range journeys(t) {
		m, _ := impl.MoveBegin(j.from, j.to, j.g)
		for _, a := range j.acts {
			then, ok := checkHappened(t, m, a)
			if ok {
				done++
			}
			for page, isLeft := range then.Left {
				if isLeft && !m.Left[page] {
					again++
				}
			}
			m = then
		}
	}
	if done < 1000 || again < 300 {
		t.Errorf("%d things were done, %d times a page was left again", done, again)
	}
}

// A step leaves the host there as it is, and no page is less left behind it; a page whose words turn is left. Sending leaves the host here as it is, and all other pages as left as they were.
func TestP24StepsAreHereAndSendingIsThere(t *testing.T) {
	turned := 0
	for _, m := range append(someMoves(t), runningMoves(t)...) {
		before, _ := impl.HostView(m.From, m.G)
		then, ok := impl.MoveDo(m, stepAct())
		if ok {
			checkSame(t, "the host there behind a step", then.To, m.To)
			after, _ := impl.HostView(then.From, m.G)
			for page := range m.Left {
				wrote := !slices.Equal(before.Mem[page*8:page*8+8], after.Mem[page*8:page*8+8])
				if (m.Left[page] || wrote) && !then.Left[page] {
					t.Fatalf("page %d was left: %v, is written: %v, and is not left", page, m.Left[page], wrote)
				}
				if wrote && !m.Left[page] {
					turned++
				}
			}
		}
		for page := range m.Left {
			then, ok := impl.MoveDo(m, sendAct(page))
			if !ok {
				continue
			}
			checkSame(t, "the host here behind sending", then.From, m.From)
			want := slices.Clone(m.Left)
			want[page] = false
			checkSame(t, "what is left behind sending", then.Left, want)
			for other, s := range m.To.Guests[m.N].Pages {
				if other != page && then.To.Guests[m.N].Pages[other] != s {
					t.Fatalf("page %d was sent, and page %d was %+v, and is %+v", page, other, s, then.To.Guests[m.N].Pages[other])
				}
			}
			if s := then.To.Guests[m.N].Pages[page]; s.Frame >= 0 && !s.Write {
				t.Fatalf("page %d was sent to %+v", page, s)
			}
		}
	}
	if turned < 50 {
		t.Errorf("only %d pages that had been sent were written", turned)
	}
}

// runningMoves has moves of guests that run, behind some things that happened.
func runningMoves(t *testing.T) []impl.Move {
	t.Helper()
	list := []impl.Move{}
	for _, j := range journeys(t) {
		m, _ := impl.MoveBegin(j.from, j.to, j.g)
		for k, a := range j.acts {
			if then, ok := impl.MoveDo(m, a); ok {
				m = then
			}
			if k%29 == 3 {
				list = append(list, m)
			}
		}
	}
	return list
}

// Of what is sent nothing is lost: with all pages sent, one step, and what is left sent again, the memory there is that here.
func TestP24AllIsThereBehindEachStep(t *testing.T) {
	steps := 0
	for _, j := range journeys(t) {
		m, ok := allSent(t, j)
		if !ok {
			continue
		}
		for range 40 {
			then, ok := impl.MoveDo(m, stepAct())
			if !ok {
				break
			}
			for page, isLeft := range then.Left {
				if isLeft {
					then, ok = impl.MoveDo(then, sendAct(page))
				}
			}
			if !ok {
				break
			}
			here, _ := impl.HostView(then.From, then.G)
			there, _ := impl.HostView(then.To, then.N)
			checkSame(t, "the memory there", there.Mem, here.Mem)
			m = then
			steps++
		}
	}
	if steps < 1000 {
		t.Errorf("only %d steps were done", steps)
	}
}

// allSent begins a move and sends all pages.
func allSent(t *testing.T, j journey) (impl.Move, bool) {
	t.Helper()
	m, ok := impl.MoveBegin(j.from, j.to, j.g)
	for page := 0; page < 8 && ok; page++ {
		m, ok = impl.MoveDo(m, sendAct(page))
	}
	return m, ok
}

// meanwhile is a move, and what all guests are on both hosts: each one's machine, behind as many steps.
type meanwhile struct {
	m   impl.Move
	own [2][]impl.Bare
}

func (w *meanwhile) happens(t *testing.T, a impl.Act) {
	t.Helper()
	then, ok := checkHappened(t, w.m, a)
	w.m = then
	if ok && a.Kind == impl.MoveStep {
		w.own[0][w.m.G] = impl.BareStep(w.own[0][w.m.G])
	}
}

// othersStep lets the guest with that number do a step on each host, if it is not the one that moves, and tells how many steps were done.
func (w *meanwhile) othersStep(g int) int {
	steps := 0
	if from, ok := impl.HostStep(w.m.From, g); ok && g != w.m.G {
		w.m.From, w.own[0][g] = from, impl.BareStep(w.own[0][g])
		steps++
	}
	if to, ok := impl.HostStep(w.m.To, g); ok && g != w.m.N {
		w.m.To, w.own[1][g] = to, impl.BareStep(w.own[1][g])
		steps++
	}
	return steps
}

// hostsWork lets a host share pages, or take zeros away, in some turns.
func (w *meanwhile) hostsWork(turn int) {
	switch turn % 12 {
	case 3:
		w.m.To = impl.HostShare(w.m.To)
	case 6:
		w.m.From = impl.HostShare(w.m.From)
	case 9:
		w.m.To = impl.HostZero(w.m.To)
	case 11:
		w.m.From = impl.HostZero(w.m.From)
	}
}

// ends sends what is left, ends the move, and looks at all guests; it tells whether it ended.
func (w *meanwhile) ends(t *testing.T) bool {
	t.Helper()
	m, ok := sentAndEnded(t, w.m)
	if !ok {
		return false
	}
	w.own[1][m.N], w.own[0][m.G] = w.own[0][m.G], impl.Bare{}
	for side, h := range []impl.Host{m.From, m.To} {
		for g, want := range w.own[side] {
			seen, _ := impl.HostView(h, g)
			checkBare(t, "a guest beside one that moves", seen, want)
		}
	}
	return true
}

// While a guest moves all others run, on both hosts, which share pages and take zeros away; and what was sent stays so.
func TestP24OthersRunMeanwhile(t *testing.T) {
	ran, ended := 0, 0
	for seed, j := range journeys(t) {
		m, _ := impl.MoveBegin(j.from, j.to, j.g)
		w := &meanwhile{m, [2][]impl.Bare{viewsOf(m.From), viewsOf(m.To)}}
		d := &dice{seed}
		for turn, a := range j.acts {
			w.happens(t, a)
			ran += w.othersStep(d.roll(3))
			w.hostsWork(turn)
			checkMoveOk(t, "others run", w.m, true)
		}
		if w.ends(t) {
			ended++
		}
	}
	if ran < 1000 || ended < 100 {
		t.Errorf("others did %d steps, and %d moves ended", ran, ended)
	}
}

// sentAndEnded sends all pages that are left, ends the move, and has both hosts behind it instead.
func sentAndEnded(t *testing.T, m impl.Move) (impl.Move, bool) {
	t.Helper()
	for page, isLeft := range m.Left {
		if isLeft {
			m, _ = impl.MoveDo(m, sendAct(page))
		}
	}
	here, there, ok := impl.MoveEnd(m)
	if ok == slices.Contains(m.Left, true) {
		t.Fatalf("with %v left the move ends: %v", m.Left, ok)
	}
	m.From, m.To = here, there
	return m, ok
}

func checkEnd(t *testing.T, name string, m impl.Move, wantHere impl.Host, wantThere impl.Host) {
	t.Helper()
	checkMoveOk(t, name, m, true)
	here, there, ok := impl.MoveEnd(m)
	if !ok {
		t.Fatalf("%s: it does not end: %+v", name, m)
	}
	checkSame(t, name+": the host here", here, wantHere)
	checkSame(t, name+": the host there", there, wantThere)
}

func TestMoveEndByHand(t *testing.T) {
	m := handMove()
	m.From.Guests[0].C = busyBare().C
	m.From.Guests[0].C.Stopped = true
	m.From.Guests[0].In, m.From.Guests[0].Out = []int{1, 2, 3}, nil
	there := cloned(m.To)
	there.Guests[1].C = impl.Core{Regs: []int{0, 0, 0, 0}, Root: -1, Saved: 24, SavedUser: true, Stopped: true}
	there.Guests[1].In, there.Guests[1].Out = []int{1, 2, 3}, nil
	checkEnd(t, "a move by hand", m, withGuest(m.From, 0, impl.Guest{}), there)
	for page := 0; page < 8; page++ {
		one := cloned(m)
		one.Left[page] = true
		checkNotEnded(t, "a page is left", one)
		one = turnedMove(m, func(m *impl.Move) { m.Left = drawnLeft("xxxxxxxx") })
		one.Left[page] = false
		checkNotEnded(t, "all but one are left", one)
	}
	m.Left = drawnLeft("xxxxxxxx")
	checkNotEnded(t, "all are left", m)
	for g := 0; g < 3; g++ {
		for n := 0; n < 3; n++ {
			m = sameMove(t, g, n)
			want := withGuest(m.To, n, guestAs(busyBare(), m.To.Guests[n].Pages))
			checkEnd(t, "all pages are sent", m, withGuest(m.From, g, impl.Guest{}), want)
		}
	}
}

// What is Dirty of the guest there stays so, and so do frames that it may not write.
func TestMoveEndLeavesSlotsAsTheyAre(t *testing.T) {
	for _, c := range slotCases() {
		for page := 0; page < 8; page++ {
			g, n := page%3, (page+1)%3
			m := impl.Move{From: hostOfSlot(c, g, page), To: hostOfSlot(c, n, page), G: g, N: n, Left: drawnLeft("........")}
			for other := range m.From.Guests[g].Pages {
				m.From.Guests[g].Pages[other].Dirty = false
			}
			want := withGuest(m.To, n, guestAs(plainBare(), m.To.Guests[n].Pages))
			checkEnd(t, "slots of all kinds", m, withGuest(m.From, g, impl.Guest{}), want)
		}
	}
}

// wantEnd puts the guest there anew, in its slots.
func wantEnd(m impl.Move) (impl.Host, impl.Host, bool) {
	if slices.Contains(m.Left, true) {
		return impl.Host{}, impl.Host{}, false
	}
	here, there := cloned(m.From), cloned(m.To)
	there.Guests[m.N] = guestAs(wantView(m.From, m.G), there.Guests[m.N].Pages)
	here.Guests[m.G] = impl.Guest{}
	return here, there, true
}

// endedMoves has moves of which nothing is left, and ones of which one page is, or more.
func endedMoves(t *testing.T) []impl.Move {
	t.Helper()
	list := []impl.Move{}
	for _, m := range append(someMoves(t), runningMoves(t)...) {
		list = append(list, m)
		for page, isLeft := range m.Left {
			if isLeft {
				if then, ok := impl.MoveDo(m, sendAct(page)); ok {
					m = then
				}
			}
		}
		list = append(list, m)
	}
	return list
}

func TestP25WhoMovedIsWhatItWas(t *testing.T) {
	ended, failed := 0, 0
	for _, m := range endedMoves(t) {
		wantHere, wantThere, wantOk := wantEnd(m)
		here, there, ok := impl.MoveEnd(m)
		if ok != wantOk {
			t.Fatalf("with %v left it ends: %v", m.Left, ok)
		}
		if !ok {
			checkNotEnded(t, "something is left", m)
			failed++
			continue
		}
		ended++
		checkSame(t, "the host here", here, wantHere)
		checkSame(t, "the host there", there, wantThere)
		if !impl.HostOk(here) || !impl.HostOk(there) {
			t.Fatalf("behind a move it is %+v and %+v", here, there)
		}
		was, _ := impl.HostView(m.From, m.G)
		is, _ := impl.HostView(there, m.N)
		checkBare(t, "a guest that moved", is, was)
		if _, still := impl.HostView(here, m.G); still {
			t.Fatalf("guest %d is still there", m.G)
		}
		checkSameViews(t, "the end of a move", m.From, here, m.G)
		checkSameViews(t, "the end of a move", m.To, there, m.N)
		checkNotFewerFree(t, "the end of a move", m.From, here)
		checkSame(t, "what is free there", impl.HostFree(there), impl.HostFree(m.To))
	}
	if min(ended, failed) < 200 {
		t.Errorf("%d moves ended, and %d did not", ended, failed)
	}
}

// The core of the guest there and its words in and out are those of the beginning, till the move ends.
func TestP25CoresAreSentAtTheEndAlone(t *testing.T) {
	others := 0
	for _, j := range journeys(t) {
		m, _ := impl.MoveBegin(j.from, j.to, j.g)
		first := cloned(j.from.Guests[j.g])
		for _, a := range j.acts {
			if then, ok := impl.MoveDo(m, a); ok {
				m = then
			}
			there := m.To.Guests[m.N]
			if !sameCore(there.C, first.C) || !same(there.In, first.In) || !same(there.Out, first.Out) {
				t.Fatalf("in a move the guest there is %+v, and not %+v", there, first)
			}
		}
		last := m.From.Guests[m.G]
		for page := range m.Left {
			m, _ = impl.MoveDo(m, sendAct(page))
		}
		_, there, ok := impl.MoveEnd(m)
		if !ok {
			continue
		}
		guest := there.Guests[m.N]
		if !sameCore(guest.C, last.C) || !same(guest.In, last.In) || !same(guest.Out, last.Out) {
			t.Fatalf("behind a move the guest is %+v, and not %+v", guest, last)
		}
		if !sameCore(last.C, first.C) && (!same(last.In, first.In) || !same(last.Out, first.Out)) {
			others++
		}
	}
	if others < 50 {
		t.Errorf("only of %d guests the words in and out turned while they moved", others)
	}
}

// moved is what a move leads to.
type moved struct {
	here  impl.Host
	there impl.Host
	n     int
	steps int
}

func checkMoved(t *testing.T, name string, from impl.Host, to impl.Host, g int, acts []impl.Act, want moved) {
	t.Helper()
	here, there, n, steps, ok := impl.MoveAll(from, to, g, acts)
	if !ok || n != want.n || steps != want.steps {
		t.Fatalf("%s: guest %d moved as %d by %d steps, %v, and not as %d by %d", name, g, n, steps, ok, want.n, want.steps)
	}
	checkSame(t, name+": the host here", here, want.here)
	checkSame(t, name+": the host there", there, want.there)
}

// doublerBare stores 40 at 40, and doubles it in a register again and again.
func doublerBare() impl.Bare {
	b := impl.Bare{C: impl.Core{Regs: make([]int, 4), Root: -1}, Mem: make([]int, 64)}
	program(b.Mem, 0,
		impl.Ins{Op: impl.OpPut, A: 1, N: 40}, impl.Ins{Op: impl.OpStore, A: 1, N: 1},
		impl.Ins{Op: impl.OpAdd, A: 1, N: 1}, impl.Ins{Op: impl.OpJump, N: 1})
	return b
}

func TestMoveAllOfTheExample(t *testing.T) {
	from, _, _ := impl.HostBoot(impl.HostNew(0), doublerBare())
	acts := []impl.Act{sendAct(0), stepAct(), stepAct(), sendAct(5), stepAct()}
	there := impl.HostNew(0)
	copy(there.Words, doublerBare().Mem[:8])
	there.Words[8] = 40
	b := doublerBare()
	b.C.Pc, b.C.Regs[1] = 3, 80
	there.Guests[0] = guestAs(b, drawnSlots("0w - - - - 1w"))
	here := impl.HostNew(0)
	copy(here.Words, doublerBare().Mem[:8])
	here.Words[8] = 40
	checkMoved(t, "the example", from, impl.HostNew(0), 0, acts, moved{here, there, 0, 3})
	if len(impl.HostFree(here)) != 20 {
		t.Errorf("%v are free", impl.HostFree(here))
	}
}

func TestMoveAllByHand(t *testing.T) {
	from := drawnHost(letters, [3]string{"0wd 1 - 2", "- 2d 3wd"})
	to := drawnHost("..", [3]string{"", "0w 2wd", "4"})
	guest := plainBare()
	there := func(slots string, pages ...int) impl.Host {
		h := withGuest(to, 0, guestAs(guest, drawnSlots(slots)))
		for _, page := range pages {
			copy(h.Words[h.Guests[0].Pages[page].Frame*8:], from.Words[from.Guests[0].Pages[page].Frame*8:][:8])
		}
		return h
	}
	here := withGuest(from, 0, impl.Guest{})
	cases := []struct {
		name  string
		acts  []impl.Act
		slots string
	}{
		{"no thing", nil, "1w 3w - 5w"},
		{"one page ahead", sendActs(3), "3w 5w - 1w"},
		{"all pages ahead, from behind", sendActs(7, 6, 5, 4, 3, 2, 1, 0), "5w 3w - 1w"},
		{"all pages ahead, in order", sendActs(0, 1, 2, 3, 4, 5, 6, 7), "1w 3w - 5w"},
		{"one page again and again", sendActs(1, 1, 1, 1), "3w 1w - 5w"},
		{"pages of zeros ahead", sendActs(2, 4, 5), "1w 3w - 5w"},
		{"pages that are none", sendActs(-1, 8, 3, 9, -7), "3w 5w - 1w"},
		{"things of other kinds", []impl.Act{{Kind: 0}, {Kind: 3, Page: 1}, {Kind: -1, Page: 3}, sendAct(1)}, "3w 1w - 5w"},
	}
	for _, c := range cases {
		checkMoved(t, c.name, from, to, 0, c.acts, moved{here, there(c.slots, 0, 1, 3), 0, 0})
	}
	// Guest 1 comes behind both that are there, as another number than here.
	behind := withGuest(to, 0, guestAs(busyBare(), drawnSlots("- 1w 3w")))
	copy(behind.Words[8:16], from.Words[16:24])
	copy(behind.Words[24:32], from.Words[24:32])
	checkMoved(t, "guest 1", from, to, 1, nil, moved{withGuest(from, 1, impl.Guest{}), behind, 0, 0})
	for _, g := range []int{-1, 2, 3} {
		checkNotMoved(t, "nobody", from, to, g, nil)
		checkNotMoved(t, "nobody", from, to, g, []impl.Act{stepAct()})
	}
	checkNotMoved(t, "all are there", from, fullHost(20), 0, nil)
	checkNotMoved(t, "from nobody", emptyHost(), to, 0, nil)
}

// storeMoved has the guest of storeBare behind so many steps, alone, with its pages 0 and 1 in these frames.
func storeMoved(steps int, frame int, other int) impl.Host {
	b := impl.BareRun(storeBare(), steps)
	h := emptyHost()
	h.Guests[0] = guestAs(b, noSlots())
	h.Guests[0].Pages[0] = impl.Slot{Frame: frame, Write: true}
	h.Guests[0].Pages[1] = impl.Slot{Frame: other, Write: true}
	copy(h.Words[frame*8:], b.Mem[:8])
	copy(h.Words[other*8:], b.Mem[8:16])
	return h
}

func TestMoveAllOfPagesThatAreWrittenByHand(t *testing.T) {
	from := bootedHost(t, []impl.Bare{storeBare()})
	step := stepAct()
	cases := []struct {
		name  string
		acts  []impl.Act
		steps int
		frame int
		other int
	}{
		{"steps alone", []impl.Act{step, step, step, step}, 4, 0, 1},
		{"a page that is sent and written", []impl.Act{sendAct(1), step}, 1, 1, 0},
		{"a page that is written and sent", []impl.Act{step, sendAct(1)}, 1, 1, 0},
		{"a page that is written, sent and written", []impl.Act{step, sendAct(1), step, step, step}, 4, 1, 0},
		{"a page that is sent twice, and written in between", []impl.Act{sendAct(1), step, sendAct(1)}, 1, 1, 0},
		{"another page that is sent", []impl.Act{sendAct(0), step, step, step, step}, 4, 0, 1},
		{"both, in between", []impl.Act{sendAct(0), step, sendAct(1), step, step, step, sendAct(0)}, 4, 0, 1},
		{"things that cannot be done at the beginning", []impl.Act{{}, sendAct(8), step, sendAct(1), step}, 2, 1, 0},
		{"things that cannot be done in between", []impl.Act{step, {Kind: 3}, sendAct(1), sendAct(-1), step}, 2, 1, 0},
		{"things that cannot be done at the end", []impl.Act{step, sendAct(1), step, sendAct(64), {Kind: -1, Page: 1}}, 2, 1, 0},
		{"things that cannot be done alone", []impl.Act{{}, {Kind: 3}, sendAct(-1), sendAct(8)}, 0, 0, 1},
	}
	for _, c := range cases {
		here := cloned(from)
		copy(here.Words[8:16], impl.BareRun(storeBare(), c.steps).Mem[8:16])
		here.Guests[0] = impl.Guest{}
		checkMoved(t, c.name, from, emptyHost(), 0, c.acts, moved{here, storeMoved(c.steps, c.frame, c.other), 0, c.steps})
	}
}

// wiperBare makes page 1 all zeros by its first step, and page 2 something else by its third one; and it stops then.
func wiperBare() impl.Bare {
	b := impl.Bare{C: impl.Core{Regs: []int{9, 0, 7, 8}, Root: -1}, Mem: make([]int, 64)}
	program(b.Mem, 0,
		impl.Ins{Op: impl.OpStore, A: 1, N: 0}, impl.Ins{Op: impl.OpAdd, A: 0, N: 3},
		impl.Ins{Op: impl.OpStore, A: 2, N: 0}, impl.Ins{Op: impl.OpStop})
	b.Mem[9] = 5
	return b
}

// A page becomes all zeros behind its sending, and gives its frame back there; another one gets it.
func TestMoveAllOfPagesThatBecomeZerosByHand(t *testing.T) {
	from := bootedHost(t, []impl.Bare{wiperBare()})
	step := stepAct()
	cases := []struct {
		name  string
		acts  []impl.Act
		steps int
		slots string
	}{
		{"sent before it is wiped", []impl.Act{sendAct(1), step}, 1, "1w"},
		{"sent again behind it", []impl.Act{sendAct(1), step, sendAct(1)}, 1, "0w"},
		{"never sent", []impl.Act{step, step}, 2, "0w"},
		{"another page gets its frame", []impl.Act{sendAct(0), sendAct(1), step, sendAct(1), step, step}, 3, "0w - 1w"},
		{"another page comes before that", []impl.Act{sendAct(1), step, step, step, sendAct(2), step, step}, 5, "2w - 1w"},
		{"all in order at the end", []impl.Act{sendAct(1), step, step, step, step}, 4, "1w - 0w"},
	}
	for _, c := range cases {
		b := impl.BareRun(wiperBare(), c.steps)
		there := withGuest(emptyHost(), 0, guestAs(b, drawnSlots(c.slots)))
		copyPages(there, b)
		here, done := impl.HostRun(from, slices.Repeat([]int{0}, c.steps))
		if done != c.steps {
			t.Fatalf("%d steps were done", done)
		}
		for page := range here.Guests[0].Pages {
			here.Guests[0].Pages[page].Dirty = false
		}
		got, gotThere, n, steps, _ := impl.MoveAll(from, emptyHost(), 0, c.acts)
		if n != 0 || steps != c.steps {
			t.Fatalf("%s: it is guest %d, behind %d steps", c.name, n, steps)
		}
		checkSame(t, c.name+": the host here", got, withGuest(here, 0, impl.Guest{}))
		// Frames that were given back keep their words, which nobody sees.
		gotThere.Words, there.Words = seenWords(gotThere), seenWords(there)
		checkSame(t, c.name+": the host there", gotThere, there)
	}
}

// copyPages puts the words of a machine into the frames of guest 0.
func copyPages(h impl.Host, b impl.Bare) {
	for page, s := range h.Guests[0].Pages {
		if s.Frame >= 0 {
			copy(h.Words[s.Frame*8:s.Frame*8+8], b.Mem[page*8:])
		}
	}
}

// seenWords has the words of frames that slots have, and 0 for all others.
func seenWords(h impl.Host) []int {
	words := make([]int, 160)
	for frame, takers := range wantTakers(h) {
		if takers > 0 {
			copy(words[frame*8:frame*8+8], h.Words[frame*8:])
		}
	}
	return words
}

// wantMoveAll does one thing after the other in the second way, and then sends what is left, from page 0 on, as long as it can.
func wantMoveAll(from impl.Host, to impl.Host, g int, acts []impl.Act) (moved, bool) {
	m, ok := wantBegin(from, to, g)
	if !ok || len(acts) > 100 {
		return moved{}, false
	}
	steps := 0
	for _, a := range acts {
		then, ok := wantMoveDo(m, a)
		if ok {
			m = then
			steps += 2 - a.Kind
		}
	}
	for page := 0; page < 8 && ok; page++ {
		if m.Left[page] {
			m, ok = wantMoveSend(m, page)
		}
	}
	if !ok {
		return moved{}, false
	}
	here, there, _ := wantEnd(m)
	return moved{here, there, m.N, steps}, true
}

// checkJourney looks at a whole move, and tells whether it ended.
func checkJourney(t *testing.T, name string, j journey) bool {
	t.Helper()
	want, ok := wantMoveAll(j.from, j.to, j.g, j.acts)
	if !ok {
		checkNotMoved(t, name, j.from, j.to, j.g, j.acts)
		return false
	}
	checkMoved(t, name, j.from, j.to, j.g, j.acts, want)
	return true
}

func TestMoveAllOfManyJourneys(t *testing.T) {
	ended, failed := 0, 0
	for _, j := range journeys(t) {
		if checkJourney(t, "a journey", j) {
			ended++
		} else {
			failed++
		}
	}
	if min(ended, failed) < 30 {
		t.Errorf("%d moves ended, %d did not", ended, failed)
	}
}

func TestMoveAllOfManyHosts(t *testing.T) {
	ended, failed := 0, 0
	for seed, pair := range pairsOfHosts() {
		for g := -1; g <= 3; g++ {
			if checkJourney(t, "many hosts", journey{pair[0], pair[1], g, mixedActs(seed+g, seed%9)}) {
				ended++
			} else if isThere(pair[0], g) {
				failed++
			}
		}
	}
	if min(ended, failed) < 100 {
		t.Errorf("%d moves ended, %d did not", ended, failed)
	}
}

// rowsOfActs has all rows of so many things.
func rowsOfActs(list []impl.Act, many int) [][]impl.Act {
	if many == 0 {
		return [][]impl.Act{nil}
	}
	rows := [][]impl.Act{}
	for _, row := range rowsOfActs(list, many-1) {
		for _, a := range list {
			rows = append(rows, append(slices.Clone(row), a))
		}
	}
	return rows
}

// Each guest writes to page 1, with the same words or other ones, or to page 2; all orders of steps and sends of both, and of their programs, are there.
func TestMoveAllInEveryOrder(t *testing.T) {
	twice := storeBare()
	twice.C.Regs = []int{8, 1, 0, 0}
	for _, b := range []impl.Bare{storeBare(), twice, wiperBare(), walkerBare()} {
		from := bootedHost(t, []impl.Bare{plainBare(), b})
		for many := 0; many <= 5; many++ {
			for _, acts := range rowsOfActs([]impl.Act{stepAct(), sendAct(1), sendAct(2)}, many) {
				checkMovesUnseen(t, journey{from, handHost(), 1, acts})
			}
			for _, acts := range rowsOfActs([]impl.Act{stepAct(), sendAct(0), sendAct(1)}, many) {
				if many == 4 && !checkJourney(t, "every order", journey{from, handHost(), 1, acts}) {
					t.Fatalf("behind %+v the move does not end", acts)
				}
			}
		}
	}
}

func stepsOf(acts []impl.Act) int {
	steps := 0
	for _, a := range acts {
		if a.Kind == impl.MoveStep {
			steps++
		}
	}
	return steps
}

// checkMovesUnseen looks at a whole move from outside alone, and tells how many steps were done, -1 if it did not end.
func checkMovesUnseen(t *testing.T, j journey) int {
	t.Helper()
	here, there, n, steps, ok := impl.MoveAll(j.from, j.to, j.g, j.acts)
	if !ok {
		checkNotMoved(t, "a move that does not end", j.from, j.to, j.g, j.acts)
		return -1
	}
	if !impl.HostOk(here) || !impl.HostOk(there) || isThere(j.to, n) || steps > stepsOf(j.acts) {
		t.Fatalf("guest %d moved as %d by %d steps:\n%+v\n%+v", j.g, n, steps, here, there)
	}
	before, _ := impl.HostView(j.from, j.g)
	seen, isIt := impl.HostView(there, n)
	if _, still := impl.HostView(here, j.g); still || !isIt {
		t.Fatalf("guest %d is still here: %v, and there as %d: %v", j.g, still, n, isIt)
	}
	checkBare(t, "a guest that moved", seen, impl.BareRun(before, steps))
	checkSameViews(t, "a move", j.from, here, j.g)
	checkSameViews(t, "a move", j.to, there, n)
	return steps
}

func TestP26AGuestThatMovesCannotTell(t *testing.T) {
	all, some, failed := 0, 0, 0
	for _, j := range journeys(t) {
		switch steps := checkMovesUnseen(t, j); {
		case steps == -1:
			failed++
		case steps == stepsOf(j.acts):
			all++
		default:
			some++
		}
	}
	for seed, pair := range pairsOfHosts() {
		for _, g := range guestsOf(pair[0]) {
			checkMovesUnseen(t, journey{pair[0], pair[1], g, mixedActs(seed, 20)})
		}
	}
	if min(all, some, failed) < 20 {
		t.Errorf("all steps were done %d times, some %d times, and %d moves did not end", all, some, failed)
	}
}

// Where no frame is missing all steps are done, and the move ends, whatever is sent and when.
func TestP26WhereNoFrameIsMissing(t *testing.T) {
	for seed, h := range roomyHosts(t) {
		for g := 0; g < 3; g++ {
			for part := 0; part < 12; part++ {
				acts := mixedActs(seed*40+g*13+part, 100)
				if steps := checkMovesUnseen(t, journey{h, emptyHost(), g, acts}); steps != stepsOf(acts) {
					t.Fatalf("of %d steps %d were done", stepsOf(acts), steps)
				}
			}
		}
	}
}

// A guest that moves goes on there as it would have here, together with those that are there.
func TestP26TurnsBehindAMove(t *testing.T) {
	for seed, j := range journeys(t) {
		_, there, n, steps, ok := impl.MoveAll(j.from, j.to, j.g, j.acts)
		if !ok {
			continue
		}
		before, _ := impl.HostView(j.from, j.g)
		turns := mixedTurns(seed, 50)
		checkAlone(t, there, turns)
		then, _ := impl.HostRun(there, turns)
		seen, _ := impl.HostView(then, n)
		checkBare(t, "a guest that goes on", seen, impl.BareRun(before, steps+stepsDone(there, turns)[n]))
	}
}

// A guest moves to another host and on, and back again, while it runs; all guests of all hosts are what they would be.
func TestP26GuestsThatMoveAgain(t *testing.T) {
	moves := 0
	for seed, j := range journeys(t) {
		hosts := []impl.Host{j.from, j.to, emptyHost()}
		own := [][]impl.Bare{viewsOf(j.from), viewsOf(j.to), viewsOf(emptyHost())}
		d := &dice{seed}
		for range 6 {
			from, to := d.roll(3), d.roll(3)
			g := d.roll(3)
			here, there, n, steps, ok := impl.MoveAll(hosts[from], hosts[to], g, mixedActs(d.roll(1000), d.roll(30)))
			if !ok || from == to {
				continue
			}
			moves++
			own[to][n], own[from][g] = impl.BareRun(own[from][g], steps), impl.Bare{}
			hosts[from], hosts[to] = here, there
		}
		for side, h := range hosts {
			for g, want := range own[side] {
				seen, _ := impl.HostView(h, g)
				checkBare(t, "a guest behind many moves", seen, want)
			}
		}
	}
	if moves < 200 {
		t.Errorf("only %d guests moved", moves)
	}
}

// All three guests of a full host move to an empty one, in any order, and are there as they were; those that shared frames need more of them there.
func TestP26AllGuestsMove(t *testing.T) {
	cases := []struct {
		from impl.Host
		free int
	}{
		{fullHost(0), 0}, {fullHost(1), 1}, {fullHost(20), 20}, {drawnHost(letters, [3]string{"0 1", "0d 1d", "0 1 2w"}), 13},
	}
	for _, c := range cases {
		for _, order := range ordersOf([3]int{1, 1, 1}) {
			here, there := c.from, emptyHost()
			for k, g := range order {
				then, thereThen, n, _, ok := impl.MoveAll(here, there, g, nil)
				if n != k || !ok {
					t.Fatalf("guest %d moved as %d, %v", g, n, ok)
				}
				here, there = then, thereThen
				seen, _ := impl.HostView(there, k)
				checkBare(t, "a guest that moved", seen, wantView(c.from, g))
			}
			if len(impl.HostFree(here)) != 20 || len(impl.HostFree(there)) != c.free {
				t.Fatalf("%v are free here, and %v there", impl.HostFree(here), impl.HostFree(there))
			}
		}
	}
	// All frames of this host are taken, and three pages more are in frames of others: so the last guest does not find 20 of 23 frames.
	for _, order := range ordersOf([3]int{1, 1, 1}) {
		there := emptyHost()
		for k, g := range order {
			_, then, _, _, ok := impl.MoveAll(crowdedHost(0), there, g, nil)
			if ok != (k < 2) {
				t.Fatalf("guest %d moved: %v", g, ok)
			}
			there = then
		}
	}
}

func TestMoveAllOfNoThingUpToMoreThanMay(t *testing.T) {
	from := bootedHost(t, []impl.Bare{counterBare(), storeBare()})
	for _, many := range []int{0, 1, 2, 50, 98, 99, 100, 101, 102, 150, 200, 201, 400} {
		for _, a := range []impl.Act{stepAct(), sendAct(0), sendAct(5), sendAct(-1), {}, {Kind: 3}} {
			for g := 0; g < 2; g++ {
				j := journey{from, handHost(), g, slices.Repeat([]impl.Act{a}, many)}
				if many > 100 {
					checkNotMoved(t, "too many things", j.from, j.to, j.g, j.acts)
					continue
				}
				want := 0
				if a == stepAct() {
					want = many
				}
				if steps := checkMovesUnseen(t, j); steps != want {
					t.Fatalf("%d of %+v are %d steps", many, a, steps)
				}
				checkJourney(t, "things alike", j)
			}
		}
	}
	// A step is among a hundred things that cannot be done.
	for at := 0; at < 100; at++ {
		acts := slices.Repeat([]impl.Act{{Kind: 3}}, 100)
		acts[at] = stepAct()
		if steps := checkMovesUnseen(t, journey{from, handHost(), 1, acts}); steps != 1 {
			t.Fatalf("at %d it is %d steps", at, steps)
		}
		checkNotMoved(t, "one too many", from, handHost(), 1, append(acts, stepAct()))
	}
}

// Of guests that have stopped, or for which a frame is missing, the first ones do steps, and the others do not.
func TestMoveAllTellsHowManyStepsWereDone(t *testing.T) {
	step := stepAct()
	cases := []struct {
		name string
		from impl.Host
		acts []impl.Act
		want int
	}{
		{"nothing", writersHost(3), nil, 0},
		{"sends alone", writersHost(3), sendActs(0, 1, 2, 3), 0},
		{"steps", writersHost(3), []impl.Act{step, step, step}, 3},
		{"steps with numbers of pages", writersHost(3), []impl.Act{{Kind: 1, Page: 9}, {Kind: 1, Page: -1}, {Kind: 1, Page: 3}}, 3},
		{"steps among others", writersHost(3), []impl.Act{sendAct(0), step, {}, sendAct(8), step, sendAct(1)}, 2},
		{"a full host", writersHost(0), []impl.Act{step, step, sendAct(0), step}, 0},
		{"the last frame", writersHost(1), []impl.Act{step, step, sendAct(0), step}, 3},
	}
	for _, c := range cases {
		for g := 0; g < 3; g++ {
			if steps := checkMovesUnseen(t, journey{c.from, emptyHost(), g, c.acts}); steps != c.want {
				t.Fatalf("%s: guest %d did %d steps, not %d", c.name, g, steps, c.want)
			}
			stopped := cloned(c.from)
			stopped.Guests[g].C.Stopped = true
			if steps := checkMovesUnseen(t, journey{stopped, emptyHost(), g, c.acts}); steps != stepsOf(c.acts) {
				t.Fatalf("%s: guest %d, which has stopped, did %d steps", c.name, g, steps)
			}
		}
	}
	// A guest that needs a frame by its third step alone does two, again and again, and no more.
	from := bootedHost(t, []impl.Bare{wiperBare()})
	from = crowded(from, 0, 2, 0)
	if steps := checkMovesUnseen(t, journey{from, emptyHost(), 0, slices.Repeat([]impl.Act{step}, 9)}); steps != 2 {
		t.Fatalf("%d steps were done", steps)
	}
}

func TestMoveAllWithEnoughFramesThereAndWithOneLess(t *testing.T) {
	just, less := 0, 0
	for n := 0; n < 3; n++ {
		for _, free := range []int{4, 5, 6, 7, 8, 9, 20} {
			to := hostWithRoom(n, free)
			for many := 0; many <= 8; many++ {
				for k, pages := range [][]int{firstPages(8)[:many], []int{7, 6, 5, 4, 3, 2, 1, 0}[:many]} {
					from, g, ok := impl.HostBoot(handHost(), pagedBare(pages...))
					if !ok {
						t.Fatalf("%v were not booted", pages)
					}
					from.Guests[g].C.Stopped = true
					twice := slices.Concat(pages, pages)
					for _, acts := range [][]impl.Act{nil, {stepAct()}, sendActs(pages...), sendActs(twice...), mixedActs(free*9+many+k, 12)} {
						if ok := checkJourney(t, "frames", journey{from, to, g, acts}); ok != (many <= free) {
							t.Fatalf("%d pages moved to %d free frames: %v", many, free, ok)
						}
					}
				}
				switch many {
				case free:
					just++
				case free + 1:
					less++
				}
			}
		}
	}
	if min(just, less) < 12 {
		t.Errorf("%d times there were just enough frames, %d times one less", just, less)
	}
}

// With one frame less than it has pages with words a guest moves if one of them has become all zeros at the end.
func TestMoveAllOfAGuestThatNeedsOneFrameLessThen(t *testing.T) {
	b := wiperBare()
	for page := 3; page < 6; page++ {
		copy(b.Mem[page*8:], []int{page, page})
	}
	from := bootedHost(t, []impl.Bare{b})
	step := stepAct()
	for _, acts := range [][]impl.Act{
		{step}, {step, step}, {step, sendAct(1)}, {sendAct(1), step}, {sendAct(1), step, sendAct(1), sendAct(5)}, {step, sendAct(5), sendAct(4), sendAct(3), sendAct(0)},
		{sendAct(0), sendAct(3), sendAct(4), sendAct(5), sendAct(1), step},
	} {
		if steps := checkMovesUnseen(t, journey{from, hostWithRoom(1, 4), 0, acts}); steps != stepsOf(acts) {
			t.Fatalf("behind %+v %d steps were done", acts, steps)
		}
		checkJourney(t, "one frame less", journey{from, hostWithRoom(1, 4), 0, acts})
	}
	for _, acts := range [][]impl.Act{nil, sendActs(0, 1, 3, 4, 5), sendActs(1), {step, step, step}, {sendAct(1), step, step, step, sendAct(1)}} {
		checkNotMoved(t, "a frame is missing", from, hostWithRoom(1, 4), 0, acts)
		if steps := checkMovesUnseen(t, journey{from, hostWithRoom(1, 5), 0, acts}); steps != stepsOf(acts) {
			t.Fatalf("behind %+v %d steps were done", acts, steps)
		}
	}
	// Page 1 has a frame there, and is all zeros here; but page 0 comes first at the end, and finds none.
	checkNotMoved(t, "in order", from, hostWithRoom(1, 4), 0, append(sendActs(1, 3, 4, 5), step))
}

// Guests that do not move do not run, on either host, and have their frames as they had them; and the one that moved has frames that were free.
func TestMoveAllLeavesOthersAsTheyAre(t *testing.T) {
	for _, j := range journeys(t) {
		here, there, n, _, ok := impl.MoveAll(j.from, j.to, j.g, j.acts)
		if !ok {
			continue
		}
		for other := range here.Guests {
			if other != j.g && !same(here.Guests[other], j.from.Guests[other]) {
				t.Fatalf("guest %d here was %+v, and is %+v", other, j.from.Guests[other], here.Guests[other])
			}
			if other != n && !same(there.Guests[other], j.to.Guests[other]) {
				t.Fatalf("guest %d there was %+v, and is %+v", other, j.to.Guests[other], there.Guests[other])
			}
		}
		for page, s := range there.Guests[n].Pages {
			if s.Dirty || s.Write != (s.Frame != -1) || s.Frame != -1 && wantTakers(j.to)[s.Frame] > 0 {
				t.Fatalf("page %d of the guest there is %+v", page, s)
			}
		}
		before, behind := len(impl.HostFree(dropped(t, j.from, j.g))), len(impl.HostFree(here))
		if before != behind {
			t.Fatalf("without guest %d %d frames would be free, and %d are", j.g, before, behind)
		}
	}
}

func TestP65WhatIsLeftIsNeverWrong(t *testing.T) {
	for k, m := range append(someMoves(t), runningMoves(t)...) {
		for _, bits := range []int{0, 255, 1 << (k % 8), k % 256} {
			more := cloned(m)
			for page := range more.Left {
				more.Left[page] = more.Left[page] || bits>>page&1 != 0
			}
			checkMoveOk(t, "more pages are left", more, true)
		}
	}
	for _, m := range []impl.Move{handMove(), fullMove(), sameMove(t, 2, 1)} {
		for bits := 0; bits < 256; bits++ {
			for page := range m.Left {
				m.Left[page] = m.Left[page] || bits>>page&1 != 0
			}
			checkMoveOk(t, "more pages are left", m, true)
		}
	}
}

// With all pages left only what is no guest, or Dirty, makes a move none.
func TestP65MovesWithAllPagesLeft(t *testing.T) {
	dirty := 0
	for k, pair := range pairsOfHosts() {
		for _, g := range guestsOf(pair[0]) {
			for n := -1; n <= 3; n++ {
				m := impl.Move{From: pair[0], To: pair[1], G: g, N: n, Left: drawnLeft("xxxxxxxx")}
				isDirty := slices.ContainsFunc(pair[0].Guests[g].Pages, func(s impl.Slot) bool { return s.Dirty })
				checkMoveOk(t, "all pages are left", m, isThere(pair[1], n) && !isDirty)
				if isDirty {
					dirty++
				}
				m.Left[k%8] = false
				here, there := wantView(pair[0], g), impl.Bare{}
				if isThere(pair[1], n) && !isDirty {
					there = wantView(pair[1], n)
					checkMoveOk(t, "all pages but one are left", m, slices.Equal(here.Mem[k%8*8:k%8*8+8], there.Mem[k%8*8:k%8*8+8]))
				}
			}
		}
	}
	if dirty < 100 {
		t.Errorf("only %d moves were of guests with Dirty pages", dirty)
	}
}

func TestP66WhoBeginsToMoveHasSentNothing(t *testing.T) {
	began, dirty := 0, 0
	for _, pair := range pairsOfHosts() {
		for _, g := range guestsOf(pair[0]) {
			m, ok := impl.MoveBegin(pair[0], pair[1], g)
			if !ok {
				if len(guestsOf(pair[1])) < 3 {
					t.Fatalf("guest %d does not begin to move", g)
				}
				continue
			}
			began++
			checkMoveOk(t, "a move that begins", m, true)
			if m.G != g || isThere(pair[1], m.N) || slices.Contains(m.Left, false) {
				t.Fatalf("guest %d moves as %d, and guest %d as %d, with %v left", g, m.N, m.G, m.N, m.Left)
			}
			checkSameViews(t, "the beginning of a move", pair[0], m.From, -1)
			checkSameViews(t, "the beginning of a move", pair[1], m.To, m.N)
			seen, there := impl.HostView(m.To, m.N)
			if !there || !isZeros(seen.Mem) {
				t.Fatalf("the guest there looks like %+v, %v", seen, there)
			}
			checkSame(t, "what is free there", impl.HostFree(m.To), impl.HostFree(pair[1]))
			for page, s := range m.From.Guests[g].Pages {
				was := pair[0].Guests[g].Pages[page]
				if was.Dirty {
					dirty++
				}
				if was.Dirty = false; s != was {
					t.Fatalf("page %d was %+v, and is %+v", page, pair[0].Guests[g].Pages[page], s)
				}
			}
		}
	}
	if min(began, dirty) < 200 {
		t.Errorf("%d moves began, %d pages were Dirty", began, dirty)
	}
}

// bothHosts has the answer of what leads to two hosts.
type bothHosts struct {
	here  impl.Host
	there impl.Host
}

// checkMovesApart looks whether all that this chapter answers is new memory, and what was given is as it was.
func checkMovesApart(t *testing.T, m impl.Move, acts []impl.Act) {
	t.Helper()
	given, list := clonedWithRoom(m), clonedWithRoom(acts)
	before := wholeOf(given, list)
	impl.MoveOk(given)
	for _, a := range append(allActs(), acts...) {
		then, _ := impl.MoveDo(given, a)
		checkNewMemory(t, "a move behind something", then, given)
		again, _ := impl.MoveDo(given, a)
		checkNewMemory(t, "a move behind something", again, given, then)
	}
	here, there, _ := impl.MoveEnd(given)
	checkNewMemory(t, "hosts behind a move", bothHosts{here, there}, given)
	again, thereAgain, _ := impl.MoveEnd(given)
	checkNewMemory(t, "hosts behind a move", bothHosts{again, thereAgain}, given, here, there)
	for g := -1; g <= 3; g++ {
		then, _ := impl.MoveBegin(given.From, given.To, g)
		checkNewMemory(t, "a move that begins", then, given)
		then, _ = impl.MoveBegin(given.From, given.From, g)
		checkNewMemory(t, "a move to the same host", then, given)
		here, there, _, _, _ := impl.MoveAll(given.From, given.To, g, list)
		checkNewMemory(t, "hosts behind a whole move", bothHosts{here, there}, given, list)
		here, there, _, _, _ = impl.MoveAll(given.To, given.To, g, list)
		checkNewMemory(t, "one host behind a whole move", bothHosts{here, there}, given, list)
	}
	if !slices.Equal(wholeOf(given, list), before) {
		t.Fatalf("a move was written to: %+v, %+v", m, acts)
	}
}

func TestMovesAreNewMemory(t *testing.T) {
	for k, m := range endedMoves(t) {
		if k%37 == 0 {
			checkMovesApart(t, m, mixedActs(k, 8))
		}
	}
	for k, m := range brokenMoves(t) {
		if k%9 == 0 {
			checkMovesApart(t, m, mixedActs(k, 3))
		}
	}
	hosts := apartHosts()
	for k, h := range hosts {
		if k%4 == 0 {
			checkMovesApart(t, impl.Move{From: h, To: hosts[len(hosts)-1-k], Left: drawnLeft("xxxxxxxx"), N: 2}, mixedActs(k, 5))
		}
	}
	for k, j := range journeys(t) {
		if k%53 == 0 {
			checkMovesApart(t, impl.Move{From: j.from, To: j.to, G: j.g, N: k % 3, Left: drawnLeft("xxxxxxxx")}, j.acts)
		}
	}
	checkMovesApart(t, fullMove(), nil)
	checkMovesApart(t, handMove(), append(slices.Repeat([]impl.Act{stepAct()}, 60), slices.Repeat([]impl.Act{sendAct(1)}, 41)...))
}

// Both hosts of this move are one, and so are the lists of their guests, and the words of their frames; what happens on one side does not come to the other one.
func TestMovesOfListsThatShareMemory(t *testing.T) {
	for _, w := range []int{0, 7, 1*256 + 64 + 9, 4*256 + 64 + 2, 4*256 + 3, 13 * 256, 14 * 256, 7 * 256} {
		h := hostOfOneRow()
		for g := 0; g < 2; g++ {
			h.Guests[g].C.Pc = 17
			h.Guests[g].Pages[5].Dirty = false
		}
		h.Words[11*8+1] = w
		left := []bool{true, true, false, true, true, true, false, true}
		for g := 0; g < 2; g++ {
			for n := 0; n < 2; n++ {
				m := impl.Move{From: h, To: h, G: g, N: n, Left: left}
				before := cloned(m)
				for _, a := range allActs() {
					want, ok := wantMoveDo(before, a)
					checkDo(t, "lists that share memory", m, a, want, ok)
					then, _ := impl.MoveDo(m, a)
					checkNewMemory(t, "a move behind something", then, m)
				}
				want, ok := wantBegin(before.From, before.To, g)
				checkBegin(t, "lists that share memory", h, h, g, want, ok)
				for seed := 0; seed < 4; seed++ {
					acts := mixedActs(seed, 12)
					end, _ := wantMoveAll(before.From, before.To, g, acts)
					checkMoved(t, "lists that share memory", h, h, g, acts, end)
				}
				checkSame(t, "the move that was given", m, before)
			}
		}
	}
}
