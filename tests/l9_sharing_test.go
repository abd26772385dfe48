package tests

import (
	"slices"
	"strconv"
	"strings"
	"testing"

	"loop.example/guesthouse/impl"
)

// drawnHost has the first frames as they are drawn, by a letter each: frames of one letter have the same words, and those of a dot are all zeros; the words of each other frame tell its place. Guests are drawn by a word for each page, from page 0 on: a frame, with w if it may be written there, and d if it is Dirty, or - without one, as have all pages behind the last word. A guest that is drawn by nothing is not there.
func drawnHost(frames string, guests [3]string) impl.Host {
	h := emptyHost()
	for frame, letter := range frames {
		copy(h.Words[frame*8:frame*8+8], letterWords(letter))
	}
	bares := []impl.Bare{plainBare(), busyBare(), mixedBare(3)}
	for g, drawn := range guests {
		if drawn != "" {
			h.Guests[g] = guestAs(bares[g], drawnSlots(drawn))
		}
	}
	return h
}

func letterWords(letter rune) []int {
	words := make([]int, 8)
	for k := range words {
		if letter != '.' {
			words[k] = 2000 + 8*int(letter-'a') + k
		}
	}
	return words
}

func drawnSlots(drawn string) []impl.Slot {
	pages := noSlots()
	for page, s := range strings.Fields(drawn) {
		if s == "-" {
			continue
		}
		frame, err := strconv.Atoi(strings.TrimRight(s, "wd"))
		if err != nil {
			// It is no host then, and is not taken for one.
			frame = 20
		}
		pages[page] = impl.Slot{Frame: frame, Write: strings.Contains(s, "w"), Dirty: strings.Contains(s, "d")}
	}
	return pages
}

func checkShare(t *testing.T, name string, h impl.Host, want impl.Host) {
	t.Helper()
	if !impl.HostOk(h) {
		t.Fatalf("%s: it is no host: %+v", name, h)
	}
	checkSame(t, name+": a host behind sharing", impl.HostShare(h), want)
}

func checkZero(t *testing.T, name string, h impl.Host, want impl.Host) {
	t.Helper()
	if !impl.HostOk(h) {
		t.Fatalf("%s: it is no host: %+v", name, h)
	}
	checkSame(t, name+": a host without zeros", impl.HostZero(h), want)
}

// drawnCase has guests before and behind, on a host with these frames.
type drawnCase struct {
	name   string
	frames string
	before [3]string
	behind [3]string
}

func TestHostShareByHand(t *testing.T) {
	cases := []drawnCase{
		{"nobody", "aaa", [3]string{}, [3]string{}},
		{"one without frames", "aa", [3]string{"-"}, [3]string{"-"}},
		{"all without frames", "..", [3]string{"-", "-", "-"}, [3]string{"-", "-", "-"}},
		{"two of one guest", "aa", [3]string{"0w 1w"}, [3]string{"0 0"}},
		{"two of one guest, the later page first", "aa", [3]string{"1w 0w"}, [3]string{"0 0"}},
		{"two of two guests", "aa", [3]string{"0w", "1w"}, [3]string{"0", "0"}},
		{"two of two guests, the later one first", "aa", [3]string{"1w", "0w"}, [3]string{"0", "0"}},
		{"two of two guests, and one that is gone between", "aa", [3]string{"1w", "", "0w"}, [3]string{"0", "", "0"}},
		{"two of one guest, and two that are gone", "baa", [3]string{"", "- 2w 0w 1w", ""}, [3]string{"", "- 1 0w 1", ""}},
		{"one of each guest", "aaa", [3]string{"2w", "0w", "1w"}, [3]string{"0", "0", "0"}},
		{"pages with other numbers", "aaa", [3]string{"- - - 2w", "- - - - - - - 1w", "0w"}, [3]string{"- - - 0", "- - - - - - - 0", "0"}},
		{"one alone", "abc", [3]string{"1w"}, [3]string{"1w"}},
		{"one alone, which may not be written", "abc", [3]string{"1"}, [3]string{"1"}},
		{"one alone, which is Dirty", "abc", [3]string{"1d 2wd"}, [3]string{"1d 2wd"}},
		{"all others", "abcdef", [3]string{"0w 1", "2wd 3d", "4 5wd"}, [3]string{"0w 1", "2wd 3d", "4 5wd"}},
		{"Dirty in the first frame", "aa", [3]string{"0wd", "1w"}, [3]string{"0d", "0"}},
		{"Dirty in the other one", "aa", [3]string{"0w", "1wd"}, [3]string{"0", "0d"}},
		{"Dirty in both", "aa", [3]string{"0wd 1wd"}, [3]string{"0d 0d"}},
		{"the first one may not be written", "aa", [3]string{"0", "1w"}, [3]string{"0", "0"}},
		{"the other one may not be written", "aa", [3]string{"0w", "1"}, [3]string{"0", "0"}},
		{"neither may be written", "aa", [3]string{"0 1d"}, [3]string{"0 0d"}},
		{"in one frame already", "ab", [3]string{"0 0d", "0"}, [3]string{"0 0d", "0"}},
		{"in one frame already, and another one behind", "aa", [3]string{"0 0d", "1w"}, [3]string{"0 0d", "0"}},
		{"in one frame already, and another one ahead", "aa", [3]string{"1 1d", "0w"}, [3]string{"0 0d", "0"}},
		{"in two frames of several pages", "abca", [3]string{"3 0", "0d 3d", "3"}, [3]string{"0 0", "0d 0d", "0"}},
		{"in one frame already, of three guests", "bca", [3]string{"2", "2d", "2"}, [3]string{"2", "2d", "2"}},
		{"a free frame ahead of one", "aa", [3]string{"1w"}, [3]string{"1w"}},
		{"free frames ahead of one in a frame of several pages", "aaa", [3]string{"2 2", "2d"}, [3]string{"2 2", "2d"}},
		{"free frames ahead of two", "aabaa", [3]string{"4w", "3w"}, [3]string{"3", "3"}},
		{"a free frame between", "aaa", [3]string{"2w 0w"}, [3]string{"0 0"}},
		{"free frames on all sides", "aaaaaa", [3]string{"4w", "2wd"}, [3]string{"2", "2d"}},
		{"by turns", "abab", [3]string{"0w 1w 2w 3w"}, [3]string{"0 1 0 1"}},
		{"within each other", "abba", [3]string{"3w 2w", "1wd 0wd"}, [3]string{"0 1", "1d 0d"}},
		{"some alike, and some alone", "abcadb", [3]string{"5w 4w", "3wd 2wd", "1 0"}, [3]string{"1 4w", "0d 2wd", "1 0"}},
		{"zeros", "..", [3]string{"0w", "1wd"}, [3]string{"0", "0d"}},
		{"zeros, with and without a frame", "a..", [3]string{"- 2w -", "1w -"}, [3]string{"- 1 -", "1 -"}},
		{"zeros in one frame, and pages without one", "..", [3]string{"- 1w -", "- -"}, [3]string{"- 1w -", "- -"}},
		{"zeros in free frames ahead of a page without one", "...", [3]string{"- - 2w"}, [3]string{"- - 2w"}},
		{"zeros among others", ".a.a", [3]string{"3w 2w 1w 0w -"}, [3]string{"1 0 1 0 -"}},
		{
			"all pages of all guests in 20 frames", "aaaaaaaaaaaaaaaaaaaa",
			[3]string{"19w 18w 17w 16w 15w 14w 13w 12w", "11wd 10wd 9wd 8wd 7wd 6wd 5wd 4wd", "0 0 0 1d 1d 1d 2w 3w"},
			[3]string{"0 0 0 0 0 0 0 0", "0d 0d 0d 0d 0d 0d 0d 0d", "0 0 0 0d 0d 0d 0 0"},
		},
		{
			"the last frames", "abcdefghijklmnopqraa",
			[3]string{"19w 18w 17w", "16wd", "15"}, [3]string{"18 18 17w", "16wd", "15"},
		},
		{
			"the first frame and the last one", "abcdefghijklmnopqrsa",
			[3]string{"19w", "", "1wd 0wd"}, [3]string{"0", "", "1wd 0d"},
		},
	}
	for _, c := range cases {
		checkShare(t, c.name, drawnHost(c.frames, c.before), drawnHost(c.frames, c.behind))
		if slices.Equal(c.before[:], c.behind[:]) {
			continue
		}
		checkShare(t, c.name+", shared already", drawnHost(c.frames, c.behind), drawnHost(c.frames, c.behind))
	}
}

func TestHostShareOfANewHost(t *testing.T) {
	checkShare(t, "a new host", impl.HostNew(0), impl.HostNew(0))
	checkZero(t, "a new host", impl.HostNew(0), impl.HostNew(0))
}

// pairHost has two pages, of the numbers 0..23 over all guests, in frames with the same words; all other pages have no frame, and all other frames other words.
func pairHost(i int, j int, a impl.Slot, b impl.Slot) impl.Host {
	h := fullHost(20)
	h.Guests[i/8].Pages[i%8], h.Guests[j/8].Pages[j%8] = a, b
	for k := 0; k < 8; k++ {
		h.Words[a.Frame*8+k], h.Words[b.Frame*8+k] = 3000+k, 3000+k
	}
	return h
}

// Each two pages of all guests are in one frame or in two of them, with all that their slots may tell.
func TestHostShareOfEachTwoPages(t *testing.T) {
	for i := 0; i < 24; i++ {
		for j := 0; j < i; j++ {
			for flags := 0; flags < 16; flags++ {
				a := impl.Slot{Frame: (i*3 + j) % 20, Write: flags&1 != 0, Dirty: flags&2 != 0}
				b := impl.Slot{Frame: (a.Frame + 1 + (i+flags)%19) % 20, Write: flags&4 != 0, Dirty: flags&8 != 0}
				first := min(a.Frame, b.Frame)
				want := pairHost(i, j, a, b)
				want.Guests[i/8].Pages[i%8] = impl.Slot{Frame: first, Dirty: a.Dirty}
				want.Guests[j/8].Pages[j%8] = impl.Slot{Frame: first, Dirty: b.Dirty}
				checkShare(t, "two pages", pairHost(i, j, a, b), want)
				if !a.Write && !b.Write {
					b.Frame = a.Frame
					checkShare(t, "two pages in one frame", pairHost(i, j, a, b), pairHost(i, j, a, b))
				}
			}
		}
	}
}

func TestHostShareOfEachTwoFrames(t *testing.T) {
	for a := 0; a < 20; a++ {
		for b := 0; b < 20; b++ {
			if a == b {
				continue
			}
			g, page := (a+b)%3, a*b%8
			one, two := impl.Slot{Frame: a, Write: true}, impl.Slot{Frame: b, Write: true, Dirty: true}
			h := pairHost(g*8+page, (g*8+page+11)%24, one, two)
			want := withSlot(h, g, page, impl.Slot{Frame: min(a, b)})
			beside := (g*8 + page + 11) % 24
			want.Guests[beside/8].Pages[beside%8] = impl.Slot{Frame: min(a, b), Dirty: true}
			checkShare(t, "two frames", h, want)
			// One of both is free now, and does not matter any more.
			alone := withSlot(h, g, page, impl.Slot{Frame: -1})
			checkShare(t, "a frame beside a free one", alone, alone)
		}
	}
}

func TestHostShareOfPagesThatAreAlikeButForOneWord(t *testing.T) {
	for at := 0; at < 8; at++ {
		for k, by := range []int{1, -1, 2048, -2048, 7} {
			for first := 0; first < 19; first += 3 {
				a, b := impl.Slot{Frame: first, Write: true}, impl.Slot{Frame: 19, Write: true, Dirty: true}
				i, j := first+k, (first+k+5+at)%24
				h := pairHost(i, j, a, b)
				for _, frame := range []int{first, 19} {
					turned := cloned(h)
					turned.Words[frame*8+at] = (turned.Words[frame*8+at] + by + 4096) % 4096
					checkShare(t, "alike but for one word", turned, turned)
				}
				if same(impl.HostShare(h), h) {
					t.Fatalf("pages that are alike stay apart: %+v", h)
				}
			}
		}
	}
}

// Words are alike only each at its own place.
func TestHostShareOfPagesWithTheSameWordsInAnotherOrder(t *testing.T) {
	for k := 1; k < 8; k++ {
		a, b := impl.Slot{Frame: 3, Write: true}, impl.Slot{Frame: 11, Write: true}
		h := pairHost(2, 17, a, b)
		words := slices.Concat(h.Words[24+k:32], h.Words[24:24+k])
		copy(h.Words[24:32], words)
		checkShare(t, "another order", h, h)
		h = pairHost(2, 17, a, b)
		slices.Reverse(h.Words[24:32])
		checkShare(t, "from behind", h, h)
		h.Words[24+k] = 0
		checkShare(t, "with a zero", h, h)
	}
}

// wantShare goes from the last frame to the first one, so that the first one with some words is what is kept of them.
func wantShare(h impl.Host) impl.Host {
	h = cloned(h)
	first, many := map[[8]int]int{}, map[[8]int]int{}
	for frame, takers := range slices.Backward(takersOf(h)) {
		if takers > 0 {
			words := [8]int(h.Words[frame*8 : frame*8+8])
			first[words] = frame
			many[words] += takers
		}
	}
	for g := range h.Guests {
		for page := range h.Guests[g].Pages {
			s := &h.Guests[g].Pages[page]
			if s.Frame >= 0 {
				words := [8]int(h.Words[s.Frame*8 : s.Frame*8+8])
				*s = impl.Slot{Frame: first[words], Write: s.Write && many[words] == 1, Dirty: s.Dirty}
			}
		}
	}
	return h
}

func takersOf(h impl.Host) []int {
	takers := wantTakers(h)
	return takers[:]
}

// alikeHost has frames of few kinds, so that many pages are alike, in frames that they have already and in others; some are all zeros, and some are alike but for one word. Some guests have stopped.
func alikeHost(seed int) impl.Host {
	h, d := mixedHost(seed), &dice{seed*17 + 3}
	kinds := 1 + d.roll(6)
	for frame := 0; frame < 20; frame++ {
		kind := d.roll(kinds + 1)
		words := mixedMem(seed + kind)[:8]
		if kind == 0 {
			words = make([]int, 8)
		}
		if d.roll(4) == 0 {
			words[d.roll(8)] ^= 1
		}
		copy(h.Words[frame*8:], words)
	}
	for _, g := range guestsOf(h) {
		h.Guests[g].C.Stopped = d.roll(4) == 0
	}
	return h
}

func alikeHosts() []impl.Host {
	list := []impl.Host{}
	for seed := 1; seed <= 300; seed++ {
		list = append(list, alikeHost(seed))
	}
	return list
}

// sharingHosts has hosts of all kinds, with many pages that are alike, with some, and with none.
func sharingHosts() []impl.Host {
	return slices.Concat(hosts(), givenHosts(), rootedHosts(), busyReaches(), alikeHosts())
}

func TestAlikeHostsAreOfAllKinds(t *testing.T) {
	guests := make([]int, 4)
	within, between, together, zeros, dirtyZeros := 0, 0, 0, 0, 0
	for _, h := range alikeHosts() {
		guests[len(guestsOf(h))]++
		for g, guest := range h.Guests {
			for page, s := range guest.Pages {
				if s.Frame >= 0 && isZeros(h.Words[s.Frame*8:s.Frame*8+8]) {
					zeros++
					if s.Dirty {
						dirtyZeros++
					}
				}
				for other := 0; other < g*8+page; other++ {
					if !h.Guests[other/8].Live {
						continue
					}
					o := h.Guests[other/8].Pages[other%8]
					switch {
					case s.Frame < 0 || o.Frame < 0:
					case s.Frame == o.Frame:
						together++
					case !slices.Equal(h.Words[s.Frame*8:s.Frame*8+8], h.Words[o.Frame*8:o.Frame*8+8]):
					case other/8 == g:
						within++
					default:
						between++
					}
				}
			}
		}
	}
	if slices.Min(guests) < 10 || min(within, between, together) < 500 || min(zeros, dirtyZeros, zeros-dirtyZeros) < 100 {
		t.Errorf("hosts by guests: %v; pairs of pages in two frames: %d of one guest, %d of two; in one frame: %d; zeros: %d, Dirty ones: %d",
			guests, within, between, together, zeros, dirtyZeros)
	}
}

func TestHostShareOfManyHosts(t *testing.T) {
	turned, stayed := 0, 0
	for _, h := range sharingHosts() {
		want := wantShare(h)
		checkShare(t, "many hosts", h, want)
		if same(h, want) {
			stayed++
		} else {
			turned++
		}
	}
	if min(turned, stayed) < 100 {
		t.Errorf("%d hosts were turned, %d were not", turned, stayed)
	}
}

// inOrder has the guests of a host in another order.
func inOrder(h impl.Host, order []int) impl.Host {
	h = cloned(h)
	h.Guests = []impl.Guest{h.Guests[order[0]], h.Guests[order[1]], h.Guests[order[2]]}
	return h
}

// Which frame is the first one hangs on frames alone, and not on whose page is in it.
func TestHostShareOfGuestsInAnotherOrder(t *testing.T) {
	for _, h := range append(alikeHosts()[:100], handHost(), crowdedHost(1)) {
		for _, order := range ordersOf([3]int{1, 1, 1}) {
			checkShare(t, "another order", inOrder(h, order), inOrder(impl.HostShare(h), order))
			checkZero(t, "another order", inOrder(h, order), inOrder(impl.HostZero(h), order))
		}
	}
}

// wordsOfPages tells how many kinds of words the frames have that slots have.
func wordsOfPages(h impl.Host) int {
	kinds := [][]int{}
	for frame, takers := range takersOf(h) {
		words := h.Words[frame*8 : frame*8+8]
		if takers > 0 && !slices.ContainsFunc(kinds, func(kind []int) bool { return slices.Equal(kind, words) }) {
			kinds = append(kinds, words)
		}
	}
	return len(kinds)
}

// checkOnlySlots looks whether two hosts are alike in all but the slots of guests.
func checkOnlySlots(t *testing.T, name string, h impl.Host, then impl.Host) {
	t.Helper()
	h, then = cloned(h), cloned(then)
	for g := range h.Guests {
		h.Guests[g].Pages, then.Guests[g].Pages = nil, nil
	}
	checkSame(t, name+": a host but for its slots", then, h)
}

// checkNotFewerFree looks whether each frame that was free still is.
func checkNotFewerFree(t *testing.T, name string, h impl.Host, then impl.Host) {
	t.Helper()
	free := impl.HostFree(then)
	for _, frame := range impl.HostFree(h) {
		if !slices.Contains(free, frame) {
			t.Fatalf("%s: frame %d was free, and %v are", name, frame, free)
		}
	}
}

func checkNobodyTellsOfSharing(t *testing.T, h impl.Host) impl.Host {
	t.Helper()
	then := impl.HostShare(h)
	if !impl.HostOk(then) {
		t.Fatalf("behind sharing %+v is no host", then)
	}
	checkSameViews(t, "sharing", h, then, -1)
	checkOnlySlots(t, "sharing", h, then)
	checkNotFewerFree(t, "sharing", h, then)
	if free := impl.HostFree(then); len(free) != 20-wordsOfPages(h) {
		t.Fatalf("behind sharing %v are free, of frames with words of %d kinds: %+v", free, wordsOfPages(h), then)
	}
	takers := wantTakers(then)
	for a := range takers {
		for b := 0; b < a; b++ {
			if takers[a] > 0 && takers[b] > 0 && slices.Equal(then.Words[a*8:a*8+8], then.Words[b*8:b*8+8]) {
				t.Fatalf("the frames %d and %d have the same words: %+v", b, a, then)
			}
		}
	}
	checkSame(t, "a host that was shared twice", impl.HostShare(then), then)
	return then
}

func TestP19NobodyCanTellWhatIsShared(t *testing.T) {
	more := 0
	for _, h := range sharingHosts() {
		then := checkNobodyTellsOfSharing(t, h)
		if len(impl.HostFree(then)) > len(impl.HostFree(h)) {
			more++
		}
	}
	if more < 100 {
		t.Errorf("only %d times frames were given back", more)
	}
}

// Who had no frame has none, what is Dirty stays so, and who may not write may not write behind it.
func TestP19SlotsTellWhatTheyTold(t *testing.T) {
	lost := 0
	for _, h := range sharingHosts() {
		then := impl.HostShare(h)
		takers := wantTakers(then)
		for g, guest := range h.Guests {
			for page, s := range guest.Pages {
				now := then.Guests[g].Pages[page]
				if now.Dirty != s.Dirty || (now.Frame == -1) != (s.Frame == -1) || now.Frame > s.Frame {
					t.Fatalf("page %d of guest %d was %+v, and is %+v", page, g, s, now)
				}
				if now.Write != (s.Write && takers[max(now.Frame, 0)] == 1) {
					t.Fatalf("page %d of guest %d was %+v, and is %+v, among %d", page, g, s, now, takers[max(now.Frame, 0)])
				}
				if s.Write && !now.Write {
					lost++
				}
			}
		}
	}
	if lost < 100 {
		t.Errorf("only %d pages may not be written any more", lost)
	}
}

// A guest goes from a host that is shared, and another one comes, and nobody else sees anything of it.
func TestP19GuestsThatGoAndCome(t *testing.T) {
	came := 0
	for seed, h := range alikeHosts() {
		for _, g := range guestsOf(h) {
			then := checkNobodyTellsOfSharing(t, dropped(t, impl.HostShare(h), g))
			checkSameViews(t, "who went", dropped(t, h, g), then, -1)
			b := pagedBare(firstPages(4 + seed%5)...)
			again, at, ok := impl.HostBoot(then, b)
			if !ok {
				continue
			}
			again = checkNobodyTellsOfSharing(t, again)
			seen, _ := impl.HostView(again, at)
			checkBare(t, "who came", seen, b)
			checkSameViews(t, "who came", then, again, at)
			came++
		}
	}
	if came < 100 {
		t.Errorf("only %d guests came", came)
	}
}

// What is shared with others, and what the host gives then, is seen by nobody, and each page can be written behind it.
func TestP19WhatIsSharedCanBeCopiedAgain(t *testing.T) {
	parted := 0
	for _, h := range append(alikeHosts()[:120], crowdedHost(0), crowdedHost(1), handHost()) {
		then := impl.HostShare(h)
		for _, g := range guestsOf(h) {
			for page := 0; page < 8; page++ {
				own, ok := impl.HostCopy(then, g, page)
				s, before := then.Guests[g].Pages[page], h.Guests[g].Pages[page]
				if ok != (s.Frame != -1 && (wantTakers(then)[s.Frame] == 1 || len(impl.HostFree(then)) > 0)) {
					t.Fatalf("page %d of guest %d was copied: %v, of %+v", page, g, ok, then)
				}
				if !ok {
					continue
				}
				checkSameViews(t, "a copy of what is shared", h, own, -1)
				if s.Frame == own.Guests[g].Pages[page].Frame {
					continue
				}
				parted++
				// Nothing was written, so sharing brings it back, but for the first frame: that may be another one now.
				again := checkNobodyTellsOfSharing(t, own)
				if again.Guests[g].Pages[page].Dirty != before.Dirty || len(impl.HostFree(again)) != len(impl.HostFree(then)) {
					t.Fatalf("page %d of guest %d does not come back: %+v", page, g, again)
				}
			}
		}
	}
	if parted < 100 {
		t.Errorf("only %d pages were copied", parted)
	}
}

func TestHostZeroByHand(t *testing.T) {
	cases := []drawnCase{
		{"nobody", "...", [3]string{}, [3]string{}},
		{"pages without frames", "...", [3]string{"- -", "", "-"}, [3]string{"- -", "", "-"}},
		{"a page of zeros", ".", [3]string{"0w"}, [3]string{"-"}},
		{"one that may not be written", ".", [3]string{"0"}, [3]string{"-"}},
		{"one that is Dirty", ".", [3]string{"0wd"}, [3]string{"0wd"}},
		{"one that is Dirty, and may not be written", ".", [3]string{"0d"}, [3]string{"0d"}},
		{"words", "ab", [3]string{"0w 1", "- -"}, [3]string{"0w 1", "- -"}},
		{"words that are Dirty", "ab", [3]string{"0wd 1d"}, [3]string{"0wd 1d"}},
		{"words in a frame of two", "a", [3]string{"0", "0d"}, [3]string{"0", "0d"}},
		{"zeros in a frame of two", ".", [3]string{"0 0"}, [3]string{"- -"}},
		{"zeros in a frame of two guests", "a.", [3]string{"1", "", "- 1"}, [3]string{"-", "", "-"}},
		{"zeros in a frame of two, one of them Dirty", ".", [3]string{"0d 0"}, [3]string{"0d -"}},
		{"zeros in a frame of two guests, one of them Dirty", ".", [3]string{"0", "0d"}, [3]string{"-", "0d"}},
		{"zeros in a frame of three, two of them Dirty", ".", [3]string{"0d", "0", "0d"}, [3]string{"0d", "-", "0d"}},
		{"zeros in two frames", "..", [3]string{"0w 1w"}, [3]string{"- -"}},
		{"zeros in two frames, one of them Dirty", "..", [3]string{"0w 1wd"}, [3]string{"- 1wd"}},
		{"zeros in free frames", "..a.", [3]string{"2w"}, [3]string{"2w"}},
		{"zeros among others", "a.b.", [3]string{"0 1 - 2wd 3w", "0 1"}, [3]string{"0 - - 2wd -", "0 -"}},
		{"zeros of a guest beside one that is gone", "...", [3]string{"", "2w - 1wd", ""}, [3]string{"", "- - 1wd", ""}},
		{
			"all pages of all guests", "....................",
			[3]string{"0w 1w 2w 3w 4w 5w 6w 7w", "8wd 9w 10wd 11w 12wd 13w 14wd 15w", "16 16 17 17d 18d 18d 19w -"},
			[3]string{"-", "8wd - 10wd - 12wd - 14wd -", "- - - 17d 18d 18d - -"},
		},
		{
			"the first frame and the last one", ".abcdefghijklmnopqr.",
			[3]string{"19w", "0w", "18w 1w"}, [3]string{"-", "-", "18w 1w"},
		},
	}
	for _, c := range cases {
		checkZero(t, c.name, drawnHost(c.frames, c.before), drawnHost(c.frames, c.behind))
		checkZero(t, c.name+", without zeros already", drawnHost(c.frames, c.behind), drawnHost(c.frames, c.behind))
	}
}

// Each page of each guest is in each frame once, of zeros and of one word that is none.
func TestHostZeroOfAllFrames(t *testing.T) {
	for slot := 0; slot < 24; slot++ {
		for frame := 0; frame < 20; frame++ {
			for flags := 0; flags < 4; flags++ {
				s := impl.Slot{Frame: frame, Write: flags&1 != 0, Dirty: flags&2 != 0}
				h := withSlot(fullHost(20), slot/8, slot%8, s)
				copy(h.Words[frame*8:], make([]int, 8))
				want := cloned(h)
				if !s.Dirty {
					want = withSlot(h, slot/8, slot%8, impl.Slot{Frame: -1})
				}
				checkZero(t, "a page of zeros", h, want)
				h.Words[frame*8+(slot+frame)%8] = []int{1, 4095, 2048, 64}[flags]
				checkZero(t, "a page of zeros but for one word", h, h)
			}
		}
	}
}

func TestHostZeroOfPagesOfZerosButForOneWord(t *testing.T) {
	for at := 0; at < 8; at++ {
		for bit := 0; bit < 12; bit++ {
			for k, s := range []impl.Slot{{Frame: 6}, {Frame: 6, Write: true}, {Frame: 6, Dirty: true}, {Frame: 6, Write: true, Dirty: true}} {
				h := withSlot(fullHost(20), (at+bit)%3, (at+k)%8, s)
				copy(h.Words[48:56], make([]int, 8))
				h.Words[48+at] = 1 << bit
				checkZero(t, "one bit", h, h)
			}
		}
	}
}

// A page is alone, or with another one of its guest, of another guest, or of both; each slot is answered by itself.
func TestHostZeroOfAllSlots(t *testing.T) {
	for _, c := range slotCases() {
		for slot := 0; slot < 24; slot++ {
			h := hostOfSlot(c, slot/8, slot%8)
			checkZero(t, "words", h, h)
			copy(h.Words[48:56], make([]int, 8))
			want := cloned(h)
			for g := range want.Guests {
				for page, s := range want.Guests[g].Pages {
					if s.Frame == 6 && !s.Dirty {
						want.Guests[g].Pages[page] = impl.Slot{Frame: -1}
					}
				}
			}
			checkZero(t, "zeros", h, want)
		}
	}
}

// wantZero looks at what guests look like, and not at frames.
func wantZero(h impl.Host) impl.Host {
	own := cloned(h)
	for _, g := range guestsOf(h) {
		seen := wantView(h, g)
		for page, s := range h.Guests[g].Pages {
			if isZeros(seen.Mem[page*8:page*8+8]) && !s.Dirty {
				own.Guests[g].Pages[page] = impl.Slot{Frame: -1}
			}
		}
	}
	return own
}

func TestHostZeroOfManyHosts(t *testing.T) {
	turned, stayed := 0, 0
	for _, h := range sharingHosts() {
		want := wantZero(h)
		checkZero(t, "many hosts", h, want)
		if same(h, want) {
			stayed++
		} else {
			turned++
		}
	}
	if min(turned, stayed) < 100 {
		t.Errorf("%d hosts were turned, %d were not", turned, stayed)
	}
}

func TestP63NobodyCanTellWhereNothingIs(t *testing.T) {
	gone, dirty := 0, 0
	for _, h := range sharingHosts() {
		then := impl.HostZero(h)
		if !impl.HostOk(then) {
			t.Fatalf("without zeros %+v is no host", then)
		}
		checkSameViews(t, "taking zeros away", h, then, -1)
		checkOnlySlots(t, "taking zeros away", h, then)
		checkNotFewerFree(t, "taking zeros away", h, then)
		checkSame(t, "a host without zeros twice", impl.HostZero(then), then)
		for _, g := range guestsOf(h) {
			seen, _ := impl.HostView(h, g)
			for page, s := range h.Guests[g].Pages {
				now := then.Guests[g].Pages[page]
				isGone := s.Frame != -1 && now.Frame == -1
				if s.Dirty && now != s || isGone && !isZeros(seen.Mem[page*8:page*8+8]) {
					t.Fatalf("page %d of guest %d was %+v, and is %+v, in %+v", page, g, s, now, h)
				}
				if !isGone && now != s || now.Frame != -1 && !now.Dirty && isZeros(seen.Mem[page*8:page*8+8]) {
					t.Fatalf("page %d of guest %d was %+v, and is %+v, in %+v", page, g, s, now, h)
				}
				if isGone {
					gone++
				} else if s.Dirty && isZeros(seen.Mem[page*8:page*8+8]) {
					dirty++
				}
			}
		}
	}
	if min(gone, dirty) < 100 {
		t.Errorf("%d pages gave a frame back, and %d of zeros were Dirty", gone, dirty)
	}
}

// What a frame that was given back holds is nobody's: who gets it sees zeros, and who gave it back, too, when it is given one again.
func TestP63FramesThatAreGivenBackAreGivenAgain(t *testing.T) {
	given := 0
	for _, h := range alikeHosts() {
		then := impl.HostZero(h)
		for _, g := range guestsOf(h) {
			for page, s := range h.Guests[g].Pages {
				if s.Frame == -1 || then.Guests[g].Pages[page].Frame != -1 {
					continue
				}
				again, ok := impl.HostFill(then, g, page)
				now := again.Guests[g].Pages[page]
				if !ok || !now.Write || now.Dirty {
					t.Fatalf("page %d of guest %d gets no frame again: %+v, %v, on %+v", page, g, now, ok, then)
				}
				checkSameViews(t, "a frame that is given again", h, again, -1)
				checkSameViews(t, "a frame that is given back again", h, impl.HostZero(again), -1)
				given++
			}
		}
	}
	if given < 100 {
		t.Errorf("only %d frames were given again", given)
	}
}

// Both in any order leave no page of zeros in a frame that is not Dirty, and all guests as they were.
func TestP63ZerosThatAreShared(t *testing.T) {
	for _, h := range append(alikeHosts(), impl.HostNew(0), handHost(), fullHost(0)) {
		first, second := impl.HostZero(impl.HostShare(h)), checkNobodyTellsOfSharing(t, impl.HostZero(h))
		for _, then := range []impl.Host{first, second} {
			if !impl.HostOk(then) {
				t.Fatalf("it is no host: %+v", then)
			}
			checkSameViews(t, "sharing, and taking zeros away", h, then, -1)
			checkSame(t, "a host without zeros", impl.HostZero(then), then)
		}
		if a, b := impl.HostFree(first), impl.HostFree(second); len(a) != len(b) {
			t.Fatalf("%v are free one way, and %v the other way", a, b)
		}
	}
}

// twinBare stores register 1 to the last words of pages 1, 3, 5 and 7, which have the same words, one after the other, again and again; it adds the word that it finds at the next one, and tells of it.
func twinBare(w int) impl.Bare {
	b := impl.Bare{C: impl.Core{Regs: []int{15, w, 0, 16}, Root: -1}, Mem: make([]int, 64)}
	twinProgram(b.Mem)
	for page := 1; page < 8; page += 2 {
		copy(b.Mem[page*8:page*8+8], mixedMem(9))
	}
	return b
}

func twinProgram(mem []int) {
	program(mem, 0,
		impl.Ins{Op: impl.OpStore, A: 1, N: 0}, impl.Ins{Op: impl.OpAdd, A: 0, N: 3}, impl.Ins{Op: impl.OpLoad, A: 2, N: 0},
		impl.Ins{Op: impl.OpAdd, A: 1, N: 2}, impl.Ins{Op: impl.OpOut, A: 1}, impl.Ins{Op: impl.OpJump, N: 0})
}

// tableBare does the same with pages 0, 2, 4 and 6, of which the last three hold a table; page 4 is its own.
func tableBare(w int) impl.Bare {
	b := impl.Bare{C: impl.Core{Regs: []int{23, w, 0, 16}, Root: 4}, Mem: make([]int, 64)}
	twinProgram(b.Mem)
	for page := 2; page < 8; page += 2 {
		for number := 0; number < 8; number++ {
			b.Mem[page*8+number] = number*8 + 7
		}
	}
	return b
}

// wildBare goes through all pages, and writes entries of its own table by which it goes on.
func wildBare(w int) impl.Bare {
	b := tableBare(w)
	b.C.Regs[3] = 8
	return b
}

// twinsHost has three guests with the same program, and with twelve pages of the same words, each in a frame of its own.
func twinsHost(t *testing.T) impl.Host {
	t.Helper()
	return bootedHost(t, []impl.Bare{twinBare(1), twinBare(2), twinBare(3)})
}

func TestHostShareOfTwinsByHand(t *testing.T) {
	h := twinsHost(t)
	want := cloned(h)
	for g := range want.Guests {
		for page := range want.Guests[g].Pages {
			want.Guests[g].Pages[page] = []impl.Slot{{Frame: 0}, {Frame: 1}, {Frame: -1}, {Frame: 1}, {Frame: -1}, {Frame: 1}, {Frame: -1}, {Frame: 1}}[page]
		}
	}
	checkShare(t, "twins", h, want)
	if e := impl.GuestExit(want, 1); e != copyOf(1) {
		t.Fatalf("who writes to a page that is shared leads out by %+v", e)
	}
	// Guest 1 writes to page 1, and behind guest 0, which does so, too, to page 3; what it reads there in between is what was there.
	last := mixedMem(9)[7]
	copy(want.Words[16:24], mixedMem(9))
	copy(want.Words[24:32], mixedMem(9))
	copy(want.Words[32:40], mixedMem(9))
	want.Words[23], want.Words[31], want.Words[39] = 2, 1, (2+last)%4096
	want.Guests[1].Pages[1] = impl.Slot{Frame: 2, Write: true, Dirty: true}
	want.Guests[0].Pages[1] = impl.Slot{Frame: 3, Write: true, Dirty: true}
	want.Guests[1].Pages[3] = impl.Slot{Frame: 4, Write: true, Dirty: true}
	want.Guests[1].C.Pc, want.Guests[1].C.Regs = 1, []int{31, (2 + last) % 4096, last, 16}
	want.Guests[1].Out = []int{(2 + last) % 4096}
	want.Guests[0].C.Pc = 1
	checkRunAs(t, "twins that are shared", impl.HostShare(h), []int{1, 0, 1, 1, 1, 1, 1, 1}, want, 8)
}

// Both guests have one table in one frame, and each two more pages in it; guest 0 writes to one of these, and to its own table.
func TestP20TablesThatAreSharedByHand(t *testing.T) {
	h := impl.HostShare(bootedHost(t, []impl.Bare{tableBare(22), tableBare(22)}))
	open := func(page int, frame int, ready bool) impl.Shade {
		return impl.Shade{There: true, Write: true, User: true, Page: page, Frame: frame, Ready: ready}
	}
	shared := []impl.Shade{
		open(0, 0, false), open(1, -1, false), open(2, 1, false), open(3, -1, false),
		open(4, 1, false), open(5, -1, false), open(6, 1, false), open(7, -1, false),
	}
	for g := 0; g < 2; g++ {
		checkSame(t, "a shadow of a table that is shared", impl.ShadowOf(h, g), shared)
	}
	// It stores 22 to 23, in page 2, adds the entry 63 of page 7 to it, and stores it there: page 7 leads to page 2 then, and may not be written.
	h, many := impl.HostRun(h, []int{0, 0, 0, 0, 0, 0, 0})
	if many != 7 {
		t.Fatalf("%d turns were done", many)
	}
	checkSame(t, "a shadow of a table that is shared", impl.ShadowOf(h, 1), shared)
	own := slices.Clone(shared)
	own[2], own[4] = open(2, 2, true), open(4, 3, true)
	own[7] = impl.Shade{There: true, User: true, Page: 2, Frame: 2, Ready: true}
	checkSame(t, "a shadow of a table that was copied", impl.ShadowOf(h, 0), own)
	checkLed(t, h, 0, 63, access{}, led{23, impl.WhyFine})
	checkLed(t, h, 0, 63, access{write: true}, led{-1, impl.WhyGuest})
	checkLed(t, h, 1, 63, access{write: true}, led{-1, impl.WhyFill})
	if h.Words[23] != 22 || h.Words[31] != 85 || h.Words[15] != 63 {
		t.Fatalf("the words are %v", h.Words)
	}
}

// On a full host sharing gives the frames back that others wait for.
func TestHostShareOnAFullHostByHand(t *testing.T) {
	h := writersHost(0)
	checkRunAs(t, "a full host", h, []int{0, 1, 2}, h, 0)
	copy(h.Words[19*8:], h.Words[5*8:6*8])
	shared := withSlot(withSlot(h, 0, 4, impl.Slot{Frame: 5}), 2, 6, impl.Slot{Frame: 5})
	checkShare(t, "a full host", h, shared)
	checkRunAs(t, "one frame", shared, []int{3, 2, 0, 1}, wrote(shared, 2, 19, 0), 1)
	// Behind all others in its frame a page that may not be written is written where it is.
	alone := dropped(t, shared, 0)
	then, ok := impl.HostCopy(alone, 2, 6)
	checkHost(t, "copying a page that was shared", then, ok, withSlot(alone, 2, 6, impl.Slot{Frame: 5, Write: true}), true)
}

func askedOf(h impl.Host, turns []int) int {
	asked := 0
	for _, g := range guestsOf(h) {
		asked += impl.TurnsOf(turns, g)
	}
	return asked
}

// checkSameEnd looks whether turns lead guests to the same on two hosts on which they look alike, and tells whether all of them were done both times. Where they were done on the first one they must be on the second one, if that lacks no frame that the first one has.
func checkSameEnd(t *testing.T, name string, a impl.Host, b impl.Host, turns []int, lacksNone bool) bool {
	t.Helper()
	thenA, manyA := impl.HostRun(a, turns)
	thenB, manyB := impl.HostRun(b, turns)
	asked := askedOf(a, turns)
	if lacksNone && manyA == asked && manyB != asked {
		t.Fatalf("%s: of the turns %v only %d were done, on %+v", name, turns, manyB, b)
	}
	if !impl.HostOk(thenB) {
		t.Fatalf("%s: behind the turns %v it is no host: %+v", name, turns, thenB)
	}
	if manyA != asked || manyB != asked {
		return false
	}
	checkSameViews(t, name, thenA, thenB, -1)
	for g := range thenA.Guests {
		for page, s := range thenA.Guests[g].Pages {
			if thenB.Guests[g].Pages[page].Dirty != s.Dirty {
				t.Fatalf("%s: behind the turns %v page %d of guest %d is Dirty: %v", name, turns, page, g, !s.Dirty)
			}
		}
	}
	return true
}

// alikeRuns has hosts on which guests write to many pages that are alike: first with enough frames, and then with none that is free, as all others are given to pages that have none.
func alikeRuns(t *testing.T) []impl.Host {
	t.Helper()
	list := []impl.Host{twinsHost(t)}
	for _, row := range [][]impl.Bare{
		{twinBare(5), twinBare(5), twinBare(5)},
		{tableBare(1), tableBare(2), tableBare(3)},
		{tableBare(7), twinBare(7), tableBare(7)},
		{wildBare(23), wildBare(31), counterBare()},
		{busyBare(), twinBare(9), busyBare()},
	} {
		list = append(list, bootedHost(t, row))
	}
	for _, h := range slices.Clone(list) {
		for page := 0; page < 8; page += 3 {
			list = append(list, crowded(cloned(h), 2, page, 0))
		}
	}
	return list
}

func TestP20WhatOneWritesNoOtherOneSees(t *testing.T) {
	for k, h := range append(alikeRuns(t), roomyHosts(t)...) {
		shared := impl.HostShare(h)
		whole := 0
		for _, most := range []int{15, 200} {
			for _, turns := range manyTurns(most) {
				if checkSameEnd(t, "sharing", h, shared, turns, true) {
					whole++
					checkAllAlone(t, shared, turns)
				}
			}
		}
		if whole == 0 {
			t.Errorf("on the host %d all turns were never done: %+v", k, h)
		}
	}
}

func TestP20AllGuestsInEveryOrder(t *testing.T) {
	for _, h := range alikeRuns(t) {
		shared := impl.HostShare(h)
		for _, left := range [][3]int{{1, 1, 1}, {2, 2, 2}, {3, 2, 1}, {0, 3, 3}, {1, 0, 5}, {4, 1, 1}} {
			for _, turns := range ordersOf(left) {
				checkSameEnd(t, "sharing", h, shared, turns, true)
			}
		}
	}
}

// What is written to pages that are in one frame is seen in none of the others; both kinds of them, of the guest itself and of others, are there.
func TestP20PagesThatAreSharedAreWritten(t *testing.T) {
	own, others := 0, 0
	for seed, h := range alikeRuns(t) {
		h := impl.HostShare(h)
		for _, g := range mixedTurns(seed, 150) {
			if !isThere(h, g) {
				continue
			}
			e := impl.GuestExit(h, g)
			before := h
			then, ok := checkGuestStep(t, h, g)
			h = then
			if !ok || e.Why != impl.ExitCopy {
				continue
			}
			frame := before.Guests[g].Pages[e.Page].Frame
			within := len(slices.DeleteFunc(slices.Clone(before.Guests[g].Pages), func(s impl.Slot) bool { return s.Frame != frame }))
			if within > 1 {
				own++
			}
			if wantTakers(before)[frame] > within {
				others++
			}
		}
	}
	if min(own, others) < 30 {
		t.Errorf("%d pages were written that shared a frame with ones of their guest, %d with ones of others", own, others)
	}
}

// fewFrames has hosts with one free frame or none, on which many pages are alike.
func fewFrames(t *testing.T) []impl.Host {
	t.Helper()
	list := []impl.Host{sharedHost(t, walkerBare()), bootedHost(t, []impl.Bare{walkerBare(), walkerBare(), walkerBare()})}
	for k, h := range alikeRuns(t)[:6] {
		list = append(list, crowded(cloned(h), k%3, k, 1), crowded(cloned(h), k%3, 7-k, 0))
	}
	for k, h := range alikeHosts()[:80] {
		list = append(list, crowded(h, k%3, k%8, k%2))
	}
	return list
}

func TestP20WhereFramesAreFew(t *testing.T) {
	whole, part := 0, 0
	for seed, h := range slices.Concat(fewFrames(t), alikeHosts(), runHosts(t)) {
		shared := impl.HostShare(h)
		for k, most := range []int{12, 120} {
			turns := mixedTurns(seed*3+k, most)
			if checkSameEnd(t, "sharing", h, shared, turns, true) {
				whole++
			} else {
				part++
			}
			checkAlone(t, shared, turns)
		}
	}
	if min(whole, part) < 100 {
		t.Errorf("all turns were done %d times, and not all of them %d times", whole, part)
	}
}

// Without frames of zeros more may be missing, as those that had one together need one each now; but what is done is the same.
func TestP63TurnsWithoutZeros(t *testing.T) {
	whole := 0
	for seed, h := range slices.Concat(alikeRuns(t), fewFrames(t), alikeHosts(), roomyHosts(t)) {
		for k, then := range []impl.Host{impl.HostZero(h), impl.HostShare(impl.HostZero(h)), impl.HostZero(impl.HostShare(h))} {
			turns := mixedTurns(seed*5+k, 60)
			if checkSameEnd(t, "taking zeros away", h, then, turns, false) && !same(h, then) {
				whole++
			}
			checkAlone(t, then, turns)
		}
	}
	if whole < 100 {
		t.Errorf("only %d times all turns were done behind zeros that were taken away", whole)
	}
}

// Pages are shared, and zeros taken away, again and again while guests run, and none of them can tell.
func TestP20SharedBetweenTurns(t *testing.T) {
	again := 0
	for seed, first := range append(alikeRuns(t), fewFrames(t)[:30]...) {
		h, steps := first, [3]int{}
		for k, g := range mixedTurns(seed+2, 120) {
			if k%4 == 0 {
				then := impl.HostShare(h)
				if k > 0 && len(impl.HostFree(then)) > len(impl.HostFree(h)) {
					again++
				}
				h = then
			}
			if k%7 == 0 {
				h = impl.HostZero(h)
			}
			if then, ok := impl.HostStep(h, g); ok {
				h = then
				steps[g]++
			}
		}
		for _, g := range guestsOf(first) {
			b, _ := impl.HostView(first, g)
			seen, _ := impl.HostView(h, g)
			checkBare(t, "a guest that is shared between its turns", seen, impl.BareRun(b, steps[g]))
		}
	}
	if again < 30 {
		t.Errorf("only %d times there was something to share behind turns", again)
	}
}

func TestSharingOfOtherHosts(t *testing.T) {
	for _, h := range brokenHosts() {
		if then := impl.HostShare(h); !isNothing(then) {
			t.Fatalf("behind sharing %+v is %+v", h, then)
		}
		if then := impl.HostZero(h); !isNothing(then) {
			t.Fatalf("without zeros %+v is %+v", h, then)
		}
	}
}

// Hosts with pages that are alike, and zeros, are none either if one part of them is not ok.
func TestSharingOfOtherHostsWithPagesThatAreAlike(t *testing.T) {
	right := drawnHost("..aa", [3]string{"0 1w", "", "2w 3w 0"})
	if !impl.HostOk(right) {
		t.Fatalf("%+v is no host", right)
	}
	wrong := []impl.Host{
		drawnHost("..aa", [3]string{"0w 1w", "", "2w 3w 0"}),
		drawnHost("..aa", [3]string{"0 1w", "", "2w 3w 20"}),
		withGuest(right, 1, ghosts()[3]),
		{Words: right.Words[:159], Guests: right.Guests},
		{Words: append(slices.Clone(right.Words), 0), Guests: right.Guests},
		{Words: right.Words, Guests: right.Guests[:2]},
		{Words: right.Words, Guests: append(slices.Clone(right.Guests), impl.Guest{})},
	}
	for _, at := range []int{0, 7, 15, 16, 159} {
		for _, n := range noWords() {
			wrong = append(wrong, impl.Host{Words: with(right.Words, at, n), Guests: right.Guests})
		}
	}
	for _, h := range wrong {
		if then := impl.HostShare(h); !isNothing(then) {
			t.Fatalf("behind sharing %+v is %+v", h, then)
		}
		if then := impl.HostZero(h); !isNothing(then) {
			t.Fatalf("without zeros %+v is %+v", h, then)
		}
	}
}

func checkSharingApart(t *testing.T, h impl.Host) {
	t.Helper()
	given := clonedWithRoom(h)
	before := wholeOf(given)
	shared, zeroed := impl.HostShare(given), impl.HostZero(given)
	checkNewMemory(t, "a host behind sharing", shared, given, zeroed)
	checkNewMemory(t, "a host behind sharing", impl.HostShare(given), given, shared)
	checkNewMemory(t, "a host without zeros", zeroed, given)
	checkNewMemory(t, "a host without zeros", impl.HostZero(given), given, zeroed)
	if !slices.Equal(wholeOf(given), before) {
		t.Fatalf("a host was written to: %+v", h)
	}
}

func TestHostsThatAreSharedAreNewMemory(t *testing.T) {
	for _, h := range slices.Concat(apartHosts(), alikeHosts()[:60], alikeRuns(t)) {
		checkSharingApart(t, h)
		checkSharingApart(t, impl.HostShare(h))
		checkSharingApart(t, impl.HostZero(h))
	}
	for k, h := range brokenHosts() {
		if k%13 == 0 {
			checkSharingApart(t, h)
		}
	}
}

// The guests of this host have their slots in one row; each of them has slots of its own behind it, and the frames are told by what stood there.
func TestSharingOfListsThatShareMemory(t *testing.T) {
	for _, frames := range [][]int{{}, {0}, {0, 5, 7}} {
		h := hostOfOneRow()
		for _, frame := range frames {
			copy(h.Words[frame*8:frame*8+8], h.Words[11*8:12*8])
		}
		for _, zeros := range []bool{false, true} {
			if zeros {
				copy(h.Words[11*8:12*8], make([]int, 8))
				copy(h.Words[:8], make([]int, 8))
			}
			before := cloned(h)
			checkShare(t, "lists that share memory", h, wantShare(before))
			checkZero(t, "lists that share memory", h, wantZero(before))
			checkNewMemory(t, "a host behind sharing", impl.HostShare(h), h)
			checkNewMemory(t, "a host without zeros", impl.HostZero(h), h)
			checkSame(t, "the host that was given", h, before)
		}
	}
}
