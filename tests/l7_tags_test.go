package tests

import (
	"math"
	"slices"
	"testing"

	"loop.example/guesthouse/impl"
)

func TestConstantsOfTags(t *testing.T) {
	if impl.TagLines != 6 {
		t.Errorf("TagLines is %d", impl.TagLines)
	}
}

// tagHost is shadowHost with a guest 2, whose table is in frame 5, which both others have, too; all entries of it lead to page 2, and each lets something else be done.
func tagHost() impl.Host {
	h := shadowHost()
	h.Guests[2] = plainGuest()
	h.Guests[2].Pages[2] = impl.Slot{Frame: 1, Write: true}
	h.Guests[2].Pages[3] = impl.Slot{Frame: 5}
	h.Guests[2].C.Root = 3
	return h
}

// handLines has lines of tagHost in the order in which TestTagWalkByHand makes them; the third one leads nowhere.
func handLines() []impl.Line {
	return []impl.Line{
		{Tag: 1, At: 0, What: impl.Shade{There: true, Write: true, User: true, Page: 0, Frame: 3, Ready: true}},
		{Tag: 1, At: 1, What: impl.Shade{There: true, Write: true, User: true, Page: 1, Frame: -1}},
		{Tag: 1, At: 6, What: impl.Shade{Write: true, User: true, Page: 1, Frame: -1}},
		{Tag: 1, At: 7, What: impl.Shade{There: true, Page: 7, Frame: 14, Ready: true}},
		{Tag: 0, At: 6, What: impl.Shade{There: true, Write: true, User: true, Page: 6, Frame: 5}},
		{Tag: 0, At: 7, What: impl.Shade{There: true, Write: true, User: true, Page: 7, Frame: 0, Ready: true}},
		{Tag: 2, At: 1, What: impl.Shade{There: true, Page: 2, Frame: 1, Ready: true}},
	}
}

func lineOf(h impl.Host, g int, number int) impl.Line {
	return impl.Line{Tag: g, At: number, What: wantShade(h, g, number)}
}

// linesOf has the lines of all pages of addresses of all guests that are there, those of one page beside each other.
func linesOf(h impl.Host) []impl.Line {
	list := []impl.Line{}
	for number := 0; number < 8; number++ {
		for _, g := range guestsOf(h) {
			list = append(list, lineOf(h, g, number))
		}
	}
	return list
}

func mixedLines(list []impl.Line, seed int) []impl.Line {
	d := &dice{seed}
	mixed := []impl.Line{}
	for k, line := range list {
		mixed = slices.Insert(mixed, d.roll(k+1), line)
	}
	return mixed
}

// rowsOfLines has rows of none up to six lines of a host, in mixed orders.
func rowsOfLines(h impl.Host, seed int) [][]impl.Line {
	rows := [][]impl.Line{{}}
	list := linesOf(h)
	for many := 1; many <= min(6, len(list)); many++ {
		rows = append(rows, mixedLines(list, seed+many)[:many])
	}
	return rows
}

// wantTagsOk compares each line with all others, where the program looks at those ahead of it.
func wantTagsOk(h impl.Host, tags []impl.Line) bool {
	for i, line := range tags {
		if !isThere(h, line.Tag) || !isIn(line.At, 7) || line != lineOf(h, line.Tag, line.At) {
			return false
		}
		for j, other := range tags {
			if i != j && line.Tag == other.Tag && line.At == other.At {
				return false
			}
		}
	}
	return len(tags) <= 6
}

func checkTagsOk(t *testing.T, h impl.Host, tags []impl.Line, want bool) {
	t.Helper()
	if got := impl.TagsOk(h, tags); got != want {
		t.Fatalf("TagsOk of %+v is %v, on %+v", tags, got, h)
	}
}

func TestTagsOkByHand(t *testing.T) {
	lines := handLines()
	for many := 0; many <= 6; many++ {
		checkTagsOk(t, tagHost(), lines[:many], true)
		checkTagsOk(t, tagHost(), lines[7-many:], true)
	}
	checkTagsOk(t, tagHost(), lines, false)
	checkTagsOk(t, tagHost(), nil, true)
	checkTagsOk(t, emptyHost(), nil, true)
	checkTagsOk(t, emptyHost(), []impl.Line{}, true)
}

func TestTagsOkOfNoneUpToMoreThanTagLines(t *testing.T) {
	for _, h := range []impl.Host{tagHost(), handHost(), fullHost(0), fullHost(20), withGuest(emptyHost(), 1, plainGuest())} {
		list := mixedLines(linesOf(h), 7)
		for many := range list {
			checkTagsOk(t, h, list[:many], many <= 6)
		}
		checkTagsOk(t, h, list, false)
	}
}

func TestTagsOkOfManyHosts(t *testing.T) {
	for seed, h := range append(hosts(), rootedHosts()...) {
		for _, row := range rowsOfLines(h, seed) {
			checkTagsOk(t, h, row, true)
		}
		for _, line := range linesOf(h) {
			checkTagsOk(t, h, []impl.Line{line}, true)
		}
	}
}

// shadesForAnybody has entries that are those of some guest, and ones of a page that nobody has.
func shadesForAnybody() []impl.Shade {
	list := append(wantShadow(tagHost(), 0), wantShadow(tagHost(), 1)...)
	return append(list, impl.Shade{}, impl.Shade{Frame: -1}, impl.Shade{There: true, Write: true, User: true, Frame: -1})
}

func TestTagsOkOfGuestsThatAreNotThere(t *testing.T) {
	for _, h := range []impl.Host{emptyHost(), handHost(), shadowHost(), withGuest(emptyHost(), 2, plainGuest())} {
		for _, g := range numbersOfGuests() {
			if isThere(h, g) {
				continue
			}
			for number := 0; number < 8; number++ {
				for _, s := range shadesForAnybody() {
					checkTagsOk(t, h, []impl.Line{{Tag: g, At: number, What: s}}, false)
				}
			}
		}
	}
}

func TestTagsOkOfGuestsThatAreGone(t *testing.T) {
	for seed, h := range append(someHosts(), tagHost()) {
		for _, row := range rowsOfLines(h, seed) {
			for _, g := range guestsOf(h) {
				without := dropped(t, h, g)
				isOfIt := slices.ContainsFunc(row, func(line impl.Line) bool { return line.Tag == g })
				checkTagsOk(t, without, row, !isOfIt)
				for _, line := range row {
					checkTagsOk(t, without, []impl.Line{line}, line.Tag != g)
				}
				if isOfIt {
					checkNotLooked(t, without, row, (g+1)%3, 9)
				}
			}
		}
	}
}

// Who comes in the place of a guest that is gone has lines of its own; those of the one before are right only where they are just the same.
func TestTagsOkOfGuestsInThePlaceOfOthers(t *testing.T) {
	seen := [2]int{}
	for _, h := range someHosts() {
		for _, g := range guestsOf(h) {
			then, own, ok := impl.HostBoot(dropped(t, h, g), pagedBare(1, 6))
			if !ok || own != g {
				continue
			}
			for _, line := range linesOf(h) {
				want := line.Tag != g || line == lineOf(then, g, line.At)
				checkTagsOk(t, then, []impl.Line{line}, want)
				if want {
					seen[1]++
				} else {
					seen[0]++
				}
			}
		}
	}
	if slices.Min(seen[:]) < 50 {
		t.Errorf("lines were wrong and right so often: %v", seen)
	}
}

func TestTagsOkOfPagesOutsideOfTheirRange(t *testing.T) {
	for _, h := range []impl.Host{tagHost(), handHost(), fullHost(20)} {
		for _, g := range guestsOf(h) {
			checkTagsOk(t, h, []impl.Line{lineOf(h, g, 0), lineOf(h, g, 7)}, true)
			for _, number := range append(fieldNumbers(7), 15, 63, 64, 1<<32, math.MinInt+7) {
				if isIn(number, 7) {
					continue
				}
				for _, s := range append(shadesForAnybody(), impl.Shade{There: true, Write: true, User: true, Page: number, Frame: -1}) {
					checkTagsOk(t, h, []impl.Line{{Tag: g, At: number, What: s}}, false)
				}
			}
		}
	}
}

// Each two lines of a host are there together, unless they are of one guest and one page; so two guests may have one page, and one guest two, and two pages of addresses may lead to one page.
func TestTagsOkOfTwoLines(t *testing.T) {
	for _, h := range []impl.Host{tagHost(), fullHost(20), withTable(tagHost(), 0, 5, 3, 63)} {
		list := linesOf(h)
		for i, a := range list {
			for j, b := range list {
				checkTagsOk(t, h, []impl.Line{a, b}, i != j)
			}
		}
	}
}

func TestTagsOkOfTheSameLineAmongOthers(t *testing.T) {
	h := tagHost()
	for seed := 1; seed <= 8; seed++ {
		row := mixedLines(linesOf(h), seed)[:6]
		for i := range row {
			for j := range row {
				twice := slices.Clone(row)
				twice[i] = twice[j]
				checkTagsOk(t, h, twice, i == j)
			}
		}
	}
}

// turnedLines has a line with each part of its entry turned by one.
func turnedLines(line impl.Line) []impl.Line {
	list := slices.Repeat([]impl.Line{line}, 8)
	list[0].What.There = !line.What.There
	list[1].What.Write = !line.What.Write
	list[2].What.User = !line.What.User
	list[3].What.Page++
	list[4].What.Page--
	list[5].What.Frame++
	list[6].What.Frame--
	list[7].What.Ready = !line.What.Ready
	return list
}

func TestTagsOkOfLinesWithOnePartTurned(t *testing.T) {
	for seed, h := range append(mixedHosts()[:40], tagHost(), handHost(), shadowHost(), fullHost(0)) {
		list := linesOf(h)
		for k, line := range list {
			others := mixedLines(slices.Delete(slices.Clone(list), k, k+1), seed+k)[:5]
			for _, turned := range turnedLines(line) {
				checkTagsOk(t, h, []impl.Line{turned}, false)
				for place := 0; place <= 5; place++ {
					checkTagsOk(t, h, slices.Insert(slices.Clone(others), place, turned), false)
				}
			}
			checkTagsOk(t, h, slices.Insert(others, (seed+k)%6, line), true)
		}
	}
}

// A line that is put to another guest, or to another page, is right only where that one has just the same entry.
func TestTagsOkOfLinesOfAnother(t *testing.T) {
	seen := [2]int{}
	for _, h := range append(mixedHosts()[:40], tagHost(), handHost(), fullHost(20)) {
		for _, line := range linesOf(h) {
			for _, to := range linesOf(h) {
				turned := []impl.Line{{Tag: to.Tag, At: to.At, What: line.What}}
				want := wantTagsOk(h, turned)
				checkTagsOk(t, h, turned, want)
				if want {
					seen[1]++
				} else {
					seen[0]++
				}
			}
		}
	}
	if slices.Min(seen[:]) < 100 {
		t.Errorf("lines of others were wrong and right so often: %v", seen)
	}
}

// The lines of handLines are of one host; each row tells which of them are not right on another one.
func TestTagsOkOfHostsThatTurnedByHand(t *testing.T) {
	cases := []struct {
		name  string
		turn  func(h *impl.Host)
		wrong []int
	}{
		{"nothing", func(h *impl.Host) {}, nil},
		{"an entry of the table is not there", func(h *impl.Host) { h.Words[72] ^= 1 }, []int{0}},
		{"one may not be written", func(h *impl.Host) { h.Words[79] ^= 2 }, []int{3}},
		{"one is for the kernel", func(h *impl.Host) { h.Words[78] ^= 4 }, []int{2}},
		{"one leads to another page", func(h *impl.Host) { h.Words[73] ^= 8 }, []int{1}},
		{"one turns where its word is no entry", func(h *impl.Host) { h.Words[73] ^= 64 }, nil},
		{"an entry that is not remembered", func(h *impl.Host) { h.Words[74] ^= 1 }, nil},
		{"a word that is in no table", func(h *impl.Host) { h.Words[24] ^= 1 }, nil},
		{"an entry in a frame of all three", func(h *impl.Host) { h.Words[41] ^= 4 }, []int{6}},
		{"a slot without a frame", func(h *impl.Host) { h.Guests[1].Pages[1] = impl.Slot{Frame: 17} }, []int{1, 2}},
		{"a slot may not be written", func(h *impl.Host) { h.Guests[1].Pages[7].Write = false }, []int{3}},
		{"a slot may be written, in another frame", func(h *impl.Host) {
			h.Guests[0].Pages[6] = impl.Slot{Frame: 6, Write: true}
		}, []int{4}},
		{"a slot has another frame", func(h *impl.Host) { h.Guests[0].Pages[7].Frame = 2 }, []int{5}},
		{"a slot has no frame", func(h *impl.Host) { h.Guests[2].Pages[2] = impl.Slot{Frame: -1} }, []int{6}},
		{"a slot is Dirty", func(h *impl.Host) { h.Guests[1].Pages[0].Dirty = true }, nil},
		{"the table is elsewhere", func(h *impl.Host) {
			copy(h.Words[136:144], h.Words[72:80])
			h.Guests[1].Pages[4].Frame = 17
		}, nil},
		{"another table", func(h *impl.Host) { h.Guests[1].C.Root = 1 }, []int{0, 1, 2, 3}},
		{"no table", func(h *impl.Host) { h.Guests[1].C.Root = -1 }, []int{2, 3}},
		{"a table where there was none", func(h *impl.Host) { h.Guests[0].C.Root = 6 }, []int{4, 5}},
		{"a table without a frame", func(h *impl.Host) { h.Guests[2].Pages[3] = impl.Slot{Frame: -1} }, []int{6}},
		{"users are at it", func(h *impl.Host) { h.Guests[1].C.User = !h.Guests[1].C.User }, nil},
		{"another place", func(h *impl.Host) { h.Guests[0].C.Pc ^= 8 }, nil},
		{"it has stopped", func(h *impl.Host) { h.Guests[2].C.Stopped = true }, nil},
		{"nothing comes in", func(h *impl.Host) { h.Guests[1].In = nil }, nil},
	}
	for _, c := range cases {
		h := tagHost()
		c.turn(&h)
		if !impl.HostOk(h) {
			t.Fatalf("where %s it is no host: %+v", c.name, h)
		}
		right := []impl.Line{}
		for k, line := range handLines() {
			isWrong := slices.Contains(c.wrong, k)
			if got := impl.TagsOk(h, []impl.Line{line}); got == isWrong {
				t.Fatalf("where %s line %d is right: %v", c.name, k, got)
			}
			if !isWrong {
				right = append(right, line)
			}
		}
		checkTagsOk(t, h, right[:min(6, len(right))], true)
		checkTagsOk(t, h, handLines()[:6], len(c.wrong) == 0 || slices.Min(c.wrong) == 6)
	}
}

func TestTagsOkOfOtherHosts(t *testing.T) {
	for _, h := range brokenHosts() {
		checkTagsOk(t, h, nil, false)
		checkTagsOk(t, h, []impl.Line{}, false)
		checkTagsOk(t, h, linesOf(handHost())[:1], false)
		checkTagsOk(t, h, linesOf(handHost())[:6], false)
	}
}

func checkLines(t *testing.T, name string, got []impl.Line, want []impl.Line) {
	t.Helper()
	if !slices.Equal(got, want) {
		t.Fatalf("%s:\n got %+v\nwant %+v", name, got, want)
	}
}

// Each step looks for an address behind the one ahead of it; lines are told by their numbers in handLines.
func TestTagWalkByHand(t *testing.T) {
	steps := []struct {
		g     int
		addr  int
		a     access
		want  led
		lines []int
	}{
		{1, 5, access{}, led{29, impl.WhyFine}, []int{0}},
		{1, 15, access{user: true}, led{-1, impl.WhyFill}, []int{0, 1}},
		{1, 50, access{}, led{-1, impl.WhyGuest}, []int{0, 1, 2}},
		{1, 60, access{user: true}, led{-1, impl.WhyGuest}, []int{0, 1, 2, 3}},
		{0, 55, access{write: true}, led{-1, impl.WhyCopy}, []int{0, 1, 2, 3, 4}},
		{0, 63, access{user: true, write: true}, led{7, impl.WhyFine}, []int{0, 1, 2, 3, 4, 5}},
		{1, 0, access{user: true, write: true}, led{24, impl.WhyFine}, []int{0, 1, 2, 3, 4, 5}},
		{1, 56, access{}, led{112, impl.WhyFine}, []int{0, 1, 2, 3, 4, 5}},
		{1, 56, access{write: true}, led{-1, impl.WhyGuest}, []int{0, 1, 2, 3, 4, 5}},
		{0, 48, access{}, led{40, impl.WhyFine}, []int{0, 1, 2, 3, 4, 5}},
		{1, 8, access{write: true}, led{-1, impl.WhyFill}, []int{0, 1, 2, 3, 4, 5}},
		{2, 9, access{}, led{9, impl.WhyFine}, []int{1, 2, 3, 4, 5, 6}},
		{2, 15, access{user: true}, led{-1, impl.WhyGuest}, []int{1, 2, 3, 4, 5, 6}},
		{1, 0, access{}, led{24, impl.WhyFine}, []int{2, 3, 4, 5, 6, 0}},
		{1, 15, access{}, led{-1, impl.WhyFill}, []int{3, 4, 5, 6, 0, 1}},
		{1, 7, access{}, led{31, impl.WhyFine}, []int{3, 4, 5, 6, 0, 1}},
	}
	tags := []impl.Line{}
	for k, s := range steps {
		then, at, why := impl.TagWalk(tagHost(), tags, s.g, s.addr, s.a.user, s.a.write)
		if at != s.want.at || why != s.want.why {
			t.Fatalf("the address of step %d leads to %d, %d, not to %+v", k, at, why, s.want)
		}
		want := []impl.Line{}
		for _, number := range s.lines {
			want = append(want, handLines()[number])
		}
		checkLines(t, "lines behind a step", then, want)
		tags = then
	}
}

// wantTagWalk goes by the shadow table each time, and cuts off what is too much at the end.
func wantTagWalk(h impl.Host, tags []impl.Line, g int, addr int, a access) ([]impl.Line, led) {
	line := lineOf(h, g, addr>>3)
	want := wantLed(line.What, addr, a)
	if slices.Contains(tags, line) {
		return tags, want
	}
	then := append(slices.Clone(tags), line)
	return then[max(0, len(then)-6):], want
}

func checkTagWalk(t *testing.T, h impl.Host, tags []impl.Line, g int, addr int, a access) []impl.Line {
	t.Helper()
	want, wantLed := wantTagWalk(h, tags, g, addr, a)
	got, at, why := impl.TagWalk(h, tags, g, addr, a.user, a.write)
	if at != wantLed.at || why != wantLed.why {
		t.Fatalf("%d of guest %d, %+v, leads to %d, %d, not to %+v, by %+v in %+v", addr, g, a, at, why, wantLed, tags, h)
	}
	checkLines(t, "lines behind a walk", got, want)
	return got
}

func TestTagWalkOfManyHosts(t *testing.T) {
	seen := [4]int{}
	found, made, gone := 0, 0, 0
	for seed, h := range append(rootedHosts(), tagHost(), crowdedHost(0), stoppedHost()) {
		rows := rowsOfLines(h, seed)
		for _, g := range guestsOf(h) {
			for addr := seed % 3; addr < 64; addr += 3 {
				for k, a := range accesses() {
					row := rows[(addr/8+k+seed)%len(rows)]
					then := checkTagWalk(t, h, row, g, addr, a)
					seen[wantLed(wantShade(h, g, addr>>3), addr, a).why]++
					switch {
					case slices.Equal(then, row):
						found++
					case len(row) < 6:
						made++
					default:
						gone++
					}
				}
			}
		}
	}
	if slices.Min(seen[:]) < 1000 || min(found, made, gone) < 1000 {
		t.Errorf("reasons were seen so often: %v; %d had a line, %d had room for one, %d had none", seen, found, made, gone)
	}
}

// The line of an address is at each place among none up to five others.
func TestTagWalkByALineAtEachPlace(t *testing.T) {
	for _, h := range []impl.Host{tagHost(), withTable(fullHost(12), 1, 2, 4, 8*7+5)} {
		list := linesOf(h)
		for k, line := range list {
			others := mixedLines(slices.Delete(slices.Clone(list), k, k+1), k)
			for many := 0; many <= 5; many++ {
				for place := 0; place <= many; place++ {
					row := slices.Insert(slices.Clone(others[:many]), place, line)
					addr := line.At*8 + (k+place)%8
					for _, a := range accesses() {
						checkLines(t, "lines among which that of an address is", checkTagWalk(t, h, row, line.Tag, addr, a), row)
					}
				}
			}
		}
	}
}

// Lines of the same page of other guests, and of other pages of the same guest, are no lines of an address.
func TestTagWalkWithoutALineOfThePage(t *testing.T) {
	for _, h := range []impl.Host{tagHost(), fullHost(20)} {
		list := linesOf(h)
		for k, line := range list {
			others := slices.Delete(slices.Clone(list), k, k+1)
			likely := slices.DeleteFunc(slices.Clone(others), func(other impl.Line) bool {
				return other.Tag != line.Tag && other.At != line.At
			})
			for seed, from := range [][]impl.Line{others, likely} {
				for many := 0; many <= 6; many++ {
					row := mixedLines(from, seed+many+k)[:many]
					then := checkTagWalk(t, h, row, line.Tag, line.At*8+many, accesses()[k%4])
					if many == 6 {
						row = row[1:]
					}
					checkLines(t, "lines and a new one behind them", then, append(row, line))
				}
			}
		}
	}
}

// All pages of all guests are looked for, one after the other; the last six of them are remembered, as they were made, and not as they were looked for.
func TestLinesStayInTheOrderInWhichTheyWereMade(t *testing.T) {
	h := tagHost()
	for seed := 1; seed <= 10; seed++ {
		list := mixedLines(linesOf(h), seed)
		tags := []impl.Line{}
		for k, line := range list {
			tags = checkTagWalk(t, h, tags, line.Tag, line.At*8+k%8, accesses()[k%4])
			want := list[max(0, k-5) : k+1]
			checkLines(t, "the last lines", tags, want)
			for n := range want {
				again := want[(n*n+k)%len(want)]
				tags = checkTagWalk(t, h, tags, again.Tag, again.At*8+n, accesses()[(n+k)%4])
				checkLines(t, "lines that were looked for again", tags, want)
			}
		}
	}
}

// An address that leads nowhere leaves a line, as each other one does, and the next one goes by it.
func TestTagWalkOfAddressesThatLeadNowhere(t *testing.T) {
	seen := [4]int{}
	for _, c := range slotCases() {
		for bits := 0; bits < 8; bits++ {
			for page := 0; page < 8; page++ {
				g, number := (page+bits)%3, (page+5)%8
				h := withTable(hostOfSlot(c, g, page), g, (page+4)%8, number, page*8+bits)
				line := lineOf(h, g, number)
				for k, a := range accesses() {
					tags, _, why := impl.TagWalk(h, nil, g, number*8+k, a.user, a.write)
					seen[why]++
					checkLines(t, "the line of an address", tags, []impl.Line{line})
					checkTagsOk(t, h, tags, true)
					for _, other := range accesses() {
						checkLines(t, "the line of the same page", checkTagWalk(t, h, tags, g, number*8+7-k, other), tags)
					}
				}
			}
		}
	}
	if slices.Min(seen[:]) < 50 {
		t.Errorf("reasons were seen so often: %v", seen)
	}
}

func TestTagWalkOfGuestsWithoutATable(t *testing.T) {
	for _, c := range slotCases() {
		for page := 0; page < 8; page++ {
			g := page % 3
			h := hostOfSlot(c, g, page)
			for word := 0; word < 8; word++ {
				for _, a := range accesses() {
					tags := checkTagWalk(t, h, nil, g, page*8+word, a)
					own := impl.Shade{There: true, Write: true, User: true, Page: page, Frame: c.s.Frame, Ready: c.s.Write}
					checkLines(t, "the line of a page without a table", tags, []impl.Line{{Tag: g, At: page, What: own}})
					checkTagWalk(t, h, tags, g, page*8+7-word, a)
				}
			}
		}
	}
}

// checkNotLooked looks whether nothing is looked for.
func checkNotLooked(t *testing.T, h impl.Host, tags []impl.Line, g int, addr int) {
	t.Helper()
	for _, a := range accesses() {
		then, at, why := impl.TagWalk(h, tags, g, addr, a.user, a.write)
		if len(then) != 0 || at != -1 || why != -1 {
			t.Fatalf("%d of guest %d, %+v, leads to %d, %d with %+v, by %+v in %+v", addr, g, a, at, why, then, tags, h)
		}
	}
}

func TestTagWalkOfOtherHosts(t *testing.T) {
	for _, h := range brokenHosts() {
		for _, g := range []int{-1, 0, 1, 2, 3} {
			checkNotLooked(t, h, nil, g, 9)
			checkNotLooked(t, h, handLines()[:6], g, 63)
			checkNotLooked(t, h, linesOf(handHost())[:3], g, 0)
		}
	}
}

func TestTagWalkOfGuestsThatAreNotThere(t *testing.T) {
	for seed, h := range givenHosts() {
		rows := rowsOfLines(h, seed)
		for _, g := range numbersOfGuests() {
			if isThere(h, g) {
				continue
			}
			for _, row := range rows {
				for _, addr := range []int{-1, 0, 17, 63, 64} {
					checkNotLooked(t, h, row, g, addr)
				}
			}
		}
	}
}

func TestTagWalkOfAddressesOutsideOfTheirRange(t *testing.T) {
	for seed, h := range []impl.Host{tagHost(), handHost(), fullHost(20), fullHost(1)} {
		for _, row := range rowsOfLines(h, seed) {
			for _, g := range guestsOf(h) {
				for _, addr := range append(fieldNumbers(63), 1<<32, math.MinInt+8) {
					if isIn(addr, 63) {
						checkTagWalk(t, h, row, g, addr, accesses()[addr%4])
					} else {
						checkNotLooked(t, h, row, g, addr)
					}
				}
			}
		}
	}
}

// wrongRows has rows of lines of tagHost that are not right, each by one thing alone, at each place among others that are.
func wrongRows() [][]impl.Line {
	h := tagHost()
	rows := [][]impl.Line{handLines(), linesOf(h)}
	for place := 0; place <= 5; place++ {
		others := slices.Delete(slices.Clone(handLines()[:6]), place, place+1)
		line := handLines()[place]
		wrong := append(turnedLines(line), others[(place+1)%5])
		for _, g := range []int{-1, 3, math.MinInt, math.MaxInt} {
			wrong = append(wrong, impl.Line{Tag: g, At: line.At, What: line.What})
		}
		for _, number := range []int{-1, 8, math.MinInt, math.MaxInt} {
			wrong = append(wrong, impl.Line{Tag: line.Tag, At: number, What: line.What})
		}
		for _, w := range wrong {
			rows = append(rows, slices.Insert(slices.Clone(others), place, w), []impl.Line{w, w})
		}
	}
	return rows
}

func TestTagWalkOfLinesThatAreNotRight(t *testing.T) {
	for _, row := range wrongRows() {
		checkTagsOk(t, tagHost(), row, false)
		for g := 0; g < 3; g++ {
			for addr := 3; addr < 64; addr += 4 {
				checkNotLooked(t, tagHost(), row, g, addr)
			}
		}
	}
}

func TestP15WhatIsRememberedIsWhatIs(t *testing.T) {
	for seed, h := range append(rootedHosts(), givenHosts()...) {
		rows := rowsOfLines(h, seed)
		for _, g := range guestsOf(h) {
			for addr := seed % 5; addr < 64; addr += 5 {
				for k, a := range accesses() {
					row := rows[(addr+k)%len(rows)]
					then, at, why := impl.TagWalk(h, row, g, addr, a.user, a.write)
					wantAt, wantWhy := impl.ShadowWalk(h, g, addr, a.user, a.write)
					if at != wantAt || why != wantWhy {
						t.Fatalf("%d of guest %d, %+v, leads to %d, %d by lines, and to %d, %d without", addr, g, a, at, why, wantAt, wantWhy)
					}
					if !impl.TagsOk(h, then) {
						t.Fatalf("lines are not right behind %d of guest %d: %+v", addr, g, then)
					}
					again, at, why := impl.TagWalk(h, then, g, addr, a.user, a.write)
					if at != wantAt || why != wantWhy || !slices.Equal(again, then) {
						t.Fatalf("looked for once more %d of guest %d leads to %d, %d, by %+v and then %+v", addr, g, at, why, then, again)
					}
				}
			}
		}
	}
}

// Lines are made one after the other, and whatever was looked for ahead, the next address leads where it leads.
func TestP15WhateverWasLookedForAhead(t *testing.T) {
	for seed, h := range append(rootedHosts()[:120], tagHost(), fullHost(2)) {
		guests := guestsOf(h)
		d := &dice{seed}
		tags := []impl.Line{}
		for turn := 0; turn < 60 && len(guests) > 0; turn++ {
			g, addr, a := guests[d.roll(len(guests))], d.roll(64), accesses()[d.roll(4)]
			then, at, why := impl.TagWalk(h, tags, g, addr, a.user, a.write)
			checkLed(t, h, g, addr, a, led{at, why})
			last := then[len(then)-1]
			if !impl.TagsOk(h, then) || !slices.Equal(then, tags) && (last.Tag != g || last.At != addr/8) {
				t.Fatalf("behind %d of guest %d, %+v, lines are %+v", addr, g, a, then)
			}
			tags = then
		}
	}
}

// groupsOfLines has all lines of a host, six of them in each row, and in mixed orders.
func groupsOfLines(h impl.Host, seed int) [][]impl.Line {
	rows := [][]impl.Line{}
	list := mixedLines(linesOf(h), seed)
	for len(list) > 0 {
		many := min(6, len(list))
		rows = append(rows, list[:many])
		list = list[many:]
	}
	return rows
}

// wrongLines looks at lines behind something that was done for a guest: its own may be wrong, which are counted, and all others are right.
func wrongLines(t *testing.T, name string, h impl.Host, g int, rows [][]impl.Line) int {
	t.Helper()
	wrong := 0
	for _, row := range rows {
		if !impl.TagsOk(h, impl.TagDrop(row, g)) {
			t.Fatalf("behind %s of guest %d lines of others are not right: %+v, in %+v", name, g, row, h)
		}
		if !impl.TagsOk(h, row) {
			wrong++
		}
	}
	return wrong
}

func TestP16AStepOfOneGuestLeavesTheLinesOfAllOthersRight(t *testing.T) {
	wrong, steps := 0, 0
	for seed, h := range stepHosts() {
		rows := groupsOfLines(h, seed)
		for _, row := range rows {
			checkTagsOk(t, h, row, true)
		}
		for _, g := range guestsOf(h) {
			then, _ := impl.HostStep(h, g)
			steps++
			wrong += wrongLines(t, "a step", then, g, rows)
		}
	}
	if steps < 1000 || wrong < 100 {
		t.Errorf("lines were wrong %d times, behind %d steps", wrong, steps)
	}
}

func TestP16PagesThatAreFilledOrCopiedLeaveTheLinesOfAllOthersRight(t *testing.T) {
	filled, copied := 0, 0
	for seed, h := range append(givenHosts(), tagHost(), unwritten(tagHost())) {
		rows := groupsOfLines(h, seed)
		for _, g := range guestsOf(h) {
			for page := 0; page < 8; page++ {
				if then, ok := impl.HostFill(h, g, page); ok {
					filled += wrongLines(t, "filling", then, g, rows)
				}
				if then, ok := impl.HostCopy(h, g, page); ok {
					copied += wrongLines(t, "copying", then, g, rows)
				}
			}
		}
	}
	if min(filled, copied) < 50 {
		t.Errorf("lines were wrong %d times behind filling, %d behind copying", filled, copied)
	}
}

func TestP16AnInstructionOfTheKernelLeavesTheLinesOfAllOthersRight(t *testing.T) {
	wrong := 0
	for seed, h := range append(givenHosts()[:60], tagHost()) {
		rows := groupsOfLines(h, seed)
		for _, g := range guestsOf(h) {
			for _, c := range kernelCases() {
				then, ok := impl.HostEmulate(h, g, c.i)
				if !ok {
					t.Fatalf("%s was not done", c.name)
				}
				wrong += wrongLines(t, c.name, then, g, rows)
			}
		}
	}
	if wrong < 50 {
		t.Errorf("lines were wrong %d times", wrong)
	}
}

// entangledHost has guests with pages in each other's frames: guests 0 and 2 have one table, in frame 13, which is a page of guest 1, too, and the table of guest 1, in frame 9, is a page of both others. Each page of addresses leads to the page with its number. The next step of each guest stores register 1 at the address.
func entangledHost(addr int) impl.Host {
	h := emptyHost()
	for g := range h.Guests {
		h.Guests[g] = plainGuest()
		h.Guests[g].C.Pc = 1
		h.Guests[g].C.Regs = []int{addr, 8*3 + 1, 0, 0}
		h.Guests[g].Pages[0] = impl.Slot{Frame: 2}
		h.Guests[g].Pages[3] = impl.Slot{Frame: 6 + g, Write: true}
	}
	h.Guests[0].Pages[4], h.Guests[0].Pages[5] = impl.Slot{Frame: 13}, impl.Slot{Frame: 9}
	h.Guests[1].Pages[4], h.Guests[1].Pages[6] = impl.Slot{Frame: 9}, impl.Slot{Frame: 13}
	h.Guests[2].Pages[4], h.Guests[2].Pages[2] = impl.Slot{Frame: 13}, impl.Slot{Frame: 9}
	for g := range h.Guests {
		h.Guests[g].C.Root = 4
	}
	h.Words[17] = impl.InsWord(impl.Ins{Op: impl.OpStore, A: 1, N: 0})
	for number := 0; number < 8; number++ {
		h.Words[9*8+number] = 8*number + 7
		h.Words[13*8+number] = 8*number + 7
	}
	return h
}

// Each case is a store of one guest, and tells which of its own lines are wrong behind it: those whose entry it wrote, and those of the page that was filled or copied for it.
func TestP16LinesOfGuestsInEachOthersFramesByHand(t *testing.T) {
	cases := []struct {
		name  string
		g     int
		addr  int
		wrong []int
	}{
		{"a page that is alone", 0, 24, nil},
		{"the table of two", 0, 34, []int{2, 4}},
		{"the table of two, of the other one", 2, 39, []int{4, 7}},
		{"the table of another one", 0, 41, []int{5}},
		{"the table of another one, where it has a second page", 2, 16, []int{2}},
		{"its own table, which another one has as a page", 1, 33, []int{1, 4}},
		{"the table of two others", 1, 48, []int{6}},
		{"a page without a frame", 1, 56, []int{7}},
		{"the page of the instructions of all", 2, 7, []int{0}},
	}
	for _, c := range cases {
		h := entangledHost(c.addr)
		then, ok := checkStep(t, h, c.g)
		if !ok || !impl.HostOk(h) {
			t.Fatalf("%s was not written in %+v", c.name, h)
		}
		for _, line := range linesOf(h) {
			isWrong := line.Tag == c.g && slices.Contains(c.wrong, line.At)
			if impl.TagsOk(then, []impl.Line{line}) == isWrong {
				t.Fatalf("behind %s, written by guest %d, %+v is wrong: %v, in %+v", c.name, c.g, line, !isWrong, then)
			}
		}
		for _, row := range groupsOfLines(h, c.addr) {
			left := slices.DeleteFunc(slices.Clone(row), func(line impl.Line) bool { return line.Tag == c.g })
			checkLines(t, "lines of others", impl.TagDrop(row, c.g), left)
			checkTagsOk(t, then, left, true)
		}
	}
}

// Guests do steps in turn, with one row of lines for all; who did a step is forgotten.
func TestP16LinesBesideManySteps(t *testing.T) {
	wrong, stayed := 0, 0
	list := []impl.Host{tagHost(), crowdedHost(1), sharedHost(t, walkerBare()), sharedHost(t, busyBare())}
	for _, addr := range []int{34, 41, 48, 7} {
		list = append(list, entangledHost(addr))
	}
	for seed, h := range append(list, mixedHosts()[:60]...) {
		guests := guestsOf(h)
		d := &dice{seed}
		tags := []impl.Line{}
		for turn := 0; turn < 40 && len(guests) > 0; turn++ {
			for k := 0; k < 3; k++ {
				g := guests[d.roll(len(guests))]
				tags = checkTagWalk(t, h, tags, g, d.roll(64), accesses()[d.roll(4)])
			}
			g := guests[d.roll(len(guests))]
			tags = checkTagWalk(t, h, tags, g, h.Guests[g].C.Pc, access{user: h.Guests[g].C.User})
			h, _ = impl.HostStep(h, g)
			if !impl.TagsOk(h, tags) {
				wrong++
			}
			tags = impl.TagDrop(tags, g)
			checkTagsOk(t, h, tags, true)
			stayed += len(tags)
		}
	}
	if wrong < 50 || stayed < 1000 {
		t.Errorf("lines were wrong %d times, and %d stayed", wrong, stayed)
	}
}

func TestP60FewerLinesAreRight(t *testing.T) {
	for seed, h := range append(rootedHosts(), givenHosts()...) {
		checkTagsOk(t, h, nil, true)
		for _, row := range rowsOfLines(h, seed) {
			checkTagsOk(t, h, row, true)
			for k := range row {
				checkTagsOk(t, h, slices.Delete(slices.Clone(row), k, k+1), true)
			}
		}
	}
}

func TestP60AnyLinesOfARowThatIsRight(t *testing.T) {
	for seed, h := range []impl.Host{tagHost(), handHost(), fullHost(0), mixedHost(3)} {
		row := mixedLines(linesOf(h), seed)[:6]
		for chosen := 0; chosen < 64; chosen++ {
			some := []impl.Line{}
			for k, line := range row {
				if chosen>>k&1 == 1 {
					some = append(some, line)
				}
			}
			checkTagsOk(t, h, some, true)
		}
	}
}

func TestTagDropByHand(t *testing.T) {
	lines := handLines()
	rows := []struct {
		g    int
		want []impl.Line
	}{
		{0, []impl.Line{lines[0], lines[1], lines[2], lines[3], lines[6]}},
		{1, []impl.Line{lines[4], lines[5], lines[6]}},
		{2, lines[:6]},
		{3, lines},
		{-1, lines},
	}
	for _, row := range rows {
		checkLines(t, "lines without those of a guest", impl.TagDrop(handLines(), row.g), row.want)
	}
	checkLines(t, "lines without those of two", impl.TagDrop(impl.TagDrop(lines, 0), 1), lines[6:])
	checkLines(t, "lines of one alone", impl.TagDrop(lines[:4], 1), nil)
	checkLines(t, "no lines", impl.TagDrop(nil, 0), nil)
	checkLines(t, "no lines", impl.TagDrop([]impl.Line{}, 2), nil)
}

// droppedRows has rows of lines that are right, and others: of guests that are nowhere, the same again and again, and more than are remembered.
func droppedRows() [][]impl.Line {
	rows := wrongRows()
	for seed, h := range append(mixedHosts()[:40], tagHost(), fullHost(5)) {
		rows = append(rows, rowsOfLines(h, seed)...)
		rows = append(rows, linesOf(h))
	}
	nobody := []impl.Line{}
	for _, g := range numbersOfGuests() {
		nobody = append(nobody, impl.Line{Tag: g, At: g, What: impl.Shade{Page: g, Frame: g}}, impl.Line{Tag: g})
	}
	rows = append(rows, nobody, slices.Repeat(nobody, 30), slices.Repeat(handLines()[:1], 100))
	for g := 0; g < 3; g++ {
		rows = append(rows, []impl.Line{lineOf(tagHost(), g, 4)}, []impl.Line{lineOf(tagHost(), g, 4), lineOf(tagHost(), g, 0)})
	}
	return rows
}

// isMadeOf tells whether a row is what is left of another one when those of a guest are taken out of it, one by one.
func isMadeOf(then []impl.Line, row []impl.Line, g int) bool {
	for _, line := range row {
		if line.Tag == g {
			continue
		}
		if len(then) == 0 || then[0] != line {
			return false
		}
		then = then[1:]
	}
	return len(then) == 0
}

func TestP61WhoIsForgottenIsForgottenAlone(t *testing.T) {
	none, some, all := 0, 0, 0
	for _, row := range droppedRows() {
		for _, g := range append(numbersOfGuests(), 6, 7, 8) {
			then := impl.TagDrop(row, g)
			for _, line := range then {
				if line.Tag == g {
					t.Fatalf("without guest %d %+v is left of %+v", g, line, row)
				}
			}
			if !isMadeOf(then, row, g) {
				t.Fatalf("without guest %d %+v is left of %+v", g, then, row)
			}
			checkLines(t, "lines of a guest that is forgotten twice", impl.TagDrop(then, g), then)
			switch len(then) {
			case len(row):
				none++
			case 0:
				all++
			default:
				some++
			}
		}
	}
	if min(none, some, all) < 50 {
		t.Errorf("of guests that were forgotten %d had no lines, %d some, %d all", none, some, all)
	}
}

func TestP61LinesAreRightWithoutAGuest(t *testing.T) {
	for seed, h := range givenHosts() {
		for _, row := range rowsOfLines(h, seed) {
			for g := -1; g <= 3; g++ {
				then := impl.TagDrop(row, g)
				checkTagsOk(t, h, then, true)
				if isThere(h, g) {
					checkTagsOk(t, dropped(t, h, g), then, true)
				}
			}
		}
	}
}

// Whoever was forgotten is looked for anew, and its lines are behind all others then.
func TestLinesThatWereForgottenAreMadeAnew(t *testing.T) {
	h := tagHost()
	for seed := 1; seed <= 20; seed++ {
		row := mixedLines(linesOf(h), seed)[:6]
		for g := 0; g < 3; g++ {
			tags := impl.TagDrop(row, g)
			want := slices.Clone(tags)
			for _, line := range row {
				tags = checkTagWalk(t, h, tags, line.Tag, line.At*8+seed%8, accesses()[seed%4])
				if line.Tag == g {
					want = append(want, line)
				}
			}
			checkLines(t, "lines that were made anew", tags, want)
		}
	}
}

func TestLinesAreNewMemory(t *testing.T) {
	for seed, h := range append(apartHosts(), tagHost(), shadowHost(), crowdedHost(0)) {
		for _, row := range rowsOfLines(h, seed) {
			host, tags := clonedWithRoom(h), clonedWithRoom(row)
			before := wholeOf(host, tags)
			impl.TagsOk(host, tags)
			for g := -1; g <= 3; g++ {
				for addr := -1 + seed%8; addr <= 64; addr += 8 {
					then, _, _ := impl.TagWalk(host, tags, g, addr, false, true)
					checkNewMemory(t, "lines behind a walk", then, host, tags)
				}
				checkNewMemory(t, "lines without a guest", impl.TagDrop(tags, g), host, tags)
			}
			if !slices.Equal(wholeOf(host, tags), before) {
				t.Fatalf("lines or a host were written to: %+v, %+v", row, h)
			}
		}
	}
}

// Rows that are parts of one row: what is made of one of them does not come into the other.
func TestLinesOfRowsThatShareMemory(t *testing.T) {
	h := hostOfOneRow()
	whole := mixedLines(linesOf(h), 3)
	before := slices.Clone(whole)
	for from := 0; from <= 10; from++ {
		for many := 0; many <= 6; many++ {
			row := whole[from : from+many]
			for _, line := range before {
				then := checkTagWalk(t, h, row, line.Tag, line.At*8+many, access{write: many%2 == 0})
				checkNewMemory(t, "lines behind a walk", then, whole, h)
			}
			checkNewMemory(t, "lines without a guest", impl.TagDrop(row, 1), whole, h)
		}
	}
	checkLines(t, "the row that was given", whole, before)
	checkSame(t, "the host that was given", h, hostOfOneRow())
}

func TestLinesThatAreNotRightAreNotWrittenTo(t *testing.T) {
	for _, row := range droppedRows() {
		tags := clonedWithRoom(row)
		before := wholeOf(tags)
		impl.TagsOk(tagHost(), tags)
		impl.TagWalk(tagHost(), tags, 1, 9, true, false)
		for g := -1; g <= 3; g++ {
			checkNewMemory(t, "lines without a guest", impl.TagDrop(tags, g), tags)
		}
		if !slices.Equal(wholeOf(tags), before) {
			t.Fatalf("lines were written to: %+v", row)
		}
	}
}
