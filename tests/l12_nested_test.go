package tests

import (
	"math"
	"slices"
	"testing"

	"loop.example/guesthouse/impl"
)

// drawnMap has a number for each letter that is drawn: a digit is a page, and - is none.
func drawnMap(drawn string) []int {
	inner := []int{}
	for _, letter := range drawn {
		if letter == '-' {
			inner = append(inner, -1)
		} else {
			inner = append(inner, int(letter-'0'))
		}
	}
	return inner
}

// ownMap is the map of each page to itself.
func ownMap() []int {
	return drawnMap("01234567")
}

// mixedMap has pages that follow from the seed alone: all of them in some order, any of them, or a few of them, and some that are nowhere.
func mixedMap(seed int) []int {
	d := &dice{seed*29 + 11}
	inner := []int{}
	for page := range 8 {
		inner = slices.Insert(inner, d.roll(page+1), page)
	}
	kind := seed % 4
	for page := range inner {
		switch {
		case kind == 1:
			inner[page] = d.roll(9) - 1
		case kind == 2:
			inner[page] = inner[d.roll(2)]
		case kind == 3 && d.roll(3) == 0:
			inner[page] = -1
		}
	}
	return inner
}

func mixedMaps(many int) [][]int {
	list := [][]int{}
	for seed := range many {
		list = append(list, mixedMap(seed))
	}
	return list
}

// plainMaps has maps by which it is plain what is where: all pages nowhere, one of them, all but one, all of them one page, and all of them in some order.
func plainMaps() [][]int {
	list := [][]int{drawnMap("--------"), ownMap(), drawnMap("76543210"), drawnMap("12345670"), drawnMap("70123456"), drawnMap("10325476"), drawnMap("00112233")}
	for page := range 8 {
		list = append(list, with(ownMap(), page, -1), with(drawnMap("--------"), page, page), with(drawnMap("--------"), page, 7-page))
		list = append(list, slices.Repeat([]int{page}, 8), with(slices.Repeat([]int{page}, 8), page, -1))
	}
	return list
}

func nestMaps() [][]int {
	return append(plainMaps(), mixedMaps(60)...)
}

func TestMixedMapsAreOfAllKinds(t *testing.T) {
	whole, nowhere, twice := 0, 0, 0
	for _, inner := range mixedMaps(60) {
		sorted := slices.Sorted(slices.Values(inner))
		pages := slices.DeleteFunc(slices.Clone(sorted), func(page int) bool { return page == -1 })
		if slices.Equal(sorted, ownMap()) {
			whole++
		}
		if len(pages) < 8 {
			nowhere++
		}
		if len(slices.Compact(slices.Clone(pages))) < len(pages) {
			twice++
		}
	}
	if min(whole, nowhere, twice) < 15 {
		t.Errorf("%d maps have all pages, %d have some nowhere, %d have some twice", whole, nowhere, twice)
	}
}

// noPages has numbers next to those of pages, and far from them, that are neither a page nor nowhere.
func noPages() []int {
	return []int{math.MinInt, -1 << 32, -64, -9, -8, -3, -2, 8, 9, 15, 16, 19, 63, 64, 1<<32 - 1, 1 << 32, math.MaxInt}
}

// brokenMaps has maps that are too short, too long, or have a number that is no page at one place.
func brokenMaps() [][]int {
	list := [][]int{nil, {}}
	for many := 1; many <= 80; many++ {
		if many != 8 {
			list = append(list, make([]int, many), slices.Repeat([]int{-1}, many))
		}
	}
	list = append(list, drawnMap("0123456"), drawnMap("1234567"), drawnMap("012345670"), drawnMap("01234567-"), drawnMap("-01234567"))
	for _, inner := range [][]int{ownMap(), drawnMap("--------"), drawnMap("00000000"), drawnMap("7-6-5-4-")} {
		for page := range 8 {
			for _, n := range noPages() {
				list = append(list, with(inner, page, n))
			}
		}
	}
	for _, n := range noPages() {
		list = append(list, slices.Repeat([]int{n}, 8))
	}
	return list
}

func TestNestOkOfMaps(t *testing.T) {
	for _, inner := range nestMaps() {
		if !impl.NestOk(inner) {
			t.Fatalf("NestOk(%v) is false", inner)
		}
	}
}

func TestNestOkOfOthers(t *testing.T) {
	for _, inner := range brokenMaps() {
		if impl.NestOk(inner) {
			t.Fatalf("NestOk(%v), of length %d, is true", inner, len(inner))
		}
	}
}

func TestNestOkOfEachNumberAtEachPlace(t *testing.T) {
	for _, inner := range [][]int{ownMap(), drawnMap("--------"), drawnMap("77777777")} {
		for page := range 8 {
			for n := -70; n <= 70; n++ {
				if got := impl.NestOk(with(inner, page, n)); got != (n == -1 || isIn(n, 7)) {
					t.Fatalf("with %d for page %d it is %v", n, page, got)
				}
			}
		}
	}
}

func TestNestOkLooksAtNoSpareCapacity(t *testing.T) {
	long := drawnMap("0123456701")
	if impl.NestOk(long[:7]) || !impl.NestOk(long[:8]) || impl.NestOk(long[:9]) || !impl.NestOk(long[2:]) {
		t.Error("what lies before or behind a map matters")
	}
	wrong := append(ownMap(), 8, -2)
	if !impl.NestOk(wrong[:8]) {
		t.Error("what lies behind a map matters")
	}
}

func TestP67APageWithinCanBeNowhere(t *testing.T) {
	for _, inner := range nestMaps() {
		for page := range 8 {
			if !impl.NestOk(with(inner, page, -1)) {
				t.Fatalf("it does not hold of %v with page %d nowhere", inner, page)
			}
		}
	}
}

// withNowhere has each page of a set nowhere.
func withNowhere(inner []int, bits int) []int {
	turned := slices.Clone(inner)
	for page := range turned {
		if bits>>page&1 != 0 {
			turned[page] = -1
		}
	}
	return turned
}

func TestP67EachSetOfPagesCanBeNowhere(t *testing.T) {
	for bits := range 256 {
		for _, inner := range append(mixedMaps(8), ownMap(), drawnMap("33333333")) {
			if !impl.NestOk(withNowhere(inner, bits)) {
				t.Fatalf("it does not hold of %v with the pages %08b nowhere", inner, bits)
			}
		}
	}
}

// Where one number alone is wrong the map is right with that page nowhere, and where two are it is not.
func TestP67AWrongPageCanBeNowhere(t *testing.T) {
	for page := range 8 {
		for _, n := range noPages() {
			for other := range 8 {
				inner := with(with(ownMap(), page, n), other, n)
				if impl.NestOk(inner) || impl.NestOk(with(inner, page, -1)) != (page == other) {
					t.Fatalf("with the pages %d and %d at %d it holds, or with the first of them nowhere", page, other, n)
				}
			}
		}
	}
}

// pagesMem has pages whose words tell their places.
func pagesMem() []int {
	mem := []int{}
	for page := range 8 {
		for k := range 8 {
			mem = append(mem, 100*page+10+k)
		}
	}
	return mem
}

func checkWords(t *testing.T, name string, mem []int, inner []int, want []int) {
	t.Helper()
	if got := impl.NestWords(mem, inner); !slices.Equal(got, want) {
		t.Fatalf("%s, by the map %v:\n got %v\nwant %v", name, inner, got, want)
	}
}

func TestNestWordsByHand(t *testing.T) {
	cases := []struct {
		name  string
		inner string
		want  []int
	}{
		{"pages in another order", "53170246", []int{
			510, 511, 512, 513, 514, 515, 516, 517, 310, 311, 312, 313, 314, 315, 316, 317,
			110, 111, 112, 113, 114, 115, 116, 117, 710, 711, 712, 713, 714, 715, 716, 717,
			10, 11, 12, 13, 14, 15, 16, 17, 210, 211, 212, 213, 214, 215, 216, 217,
			410, 411, 412, 413, 414, 415, 416, 417, 610, 611, 612, 613, 614, 615, 616, 617,
		}},
		{"pages that are nowhere", "-7-0-2--", []int{
			0, 0, 0, 0, 0, 0, 0, 0, 710, 711, 712, 713, 714, 715, 716, 717,
			0, 0, 0, 0, 0, 0, 0, 0, 10, 11, 12, 13, 14, 15, 16, 17,
			0, 0, 0, 0, 0, 0, 0, 0, 210, 211, 212, 213, 214, 215, 216, 217,
			0, 0, 0, 0, 0, 0, 0, 0, 0, 0, 0, 0, 0, 0, 0, 0,
		}},
		{"one page twice, and one of three", "6-6333--", []int{
			610, 611, 612, 613, 614, 615, 616, 617, 0, 0, 0, 0, 0, 0, 0, 0,
			610, 611, 612, 613, 614, 615, 616, 617, 310, 311, 312, 313, 314, 315, 316, 317,
			310, 311, 312, 313, 314, 315, 316, 317, 310, 311, 312, 313, 314, 315, 316, 317,
			0, 0, 0, 0, 0, 0, 0, 0, 0, 0, 0, 0, 0, 0, 0, 0,
		}},
		{"the last page behind all others that are nowhere", "-------7", append(make([]int, 56), 710, 711, 712, 713, 714, 715, 716, 717)},
		{"the first page behind all others that are nowhere", "-------0", append(make([]int, 56), 10, 11, 12, 13, 14, 15, 16, 17)},
		{"the last page before all others that are nowhere", "7-------", append([]int{710, 711, 712, 713, 714, 715, 716, 717}, make([]int, 56)...)},
		{"all pages nowhere", "--------", make([]int, 64)},
		{"each page itself", "01234567", pagesMem()},
		{"all pages the first one", "00000000", slices.Repeat([]int{10, 11, 12, 13, 14, 15, 16, 17}, 8)},
		{"all pages the last one", "77777777", slices.Repeat([]int{710, 711, 712, 713, 714, 715, 716, 717}, 8)},
	}
	for _, c := range cases {
		checkWords(t, c.name, pagesMem(), drawnMap(c.inner), c.want)
	}
}

// wantNestWords looks for each word where it is, one by one.
func wantNestWords(mem []int, inner []int) []int {
	words := []int{}
	for addr := range 64 {
		w := 0
		if page := inner[addr>>3]; page >= 0 {
			w = mem[page<<3|addr&7]
		}
		words = append(words, w)
	}
	return words
}

func TestNestWordsOfManyMemories(t *testing.T) {
	for _, mem := range append(memories(), pagesMem()) {
		for _, inner := range nestMaps() {
			checkWords(t, "a memory", mem, inner, wantNestWords(mem, inner))
		}
	}
}

// Each page within is by itself: it is each page of the memory, and nowhere, whatever all others are.
func TestNestWordsOfEachPageAtEachPlace(t *testing.T) {
	for _, others := range [][]int{ownMap(), drawnMap("--------"), drawnMap("44444444"), mixedMap(1)} {
		for page := range 8 {
			for within := -1; within <= 7; within++ {
				inner := with(others, page, within)
				want := slices.Clone(wantNestWords(pagesMem(), others))
				for k := range 8 {
					want[page*8+k] = 100*within + 10 + k
					if within == -1 {
						want[page*8+k] = 0
					}
				}
				checkWords(t, "one page", pagesMem(), inner, want)
			}
		}
	}
}

// A word of a memory is that of all pages within that are its page, and of no others.
func TestNestWordsComeFromTheirPages(t *testing.T) {
	for _, inner := range append(mixedMaps(20), ownMap(), drawnMap("--------"), drawnMap("55555555"), drawnMap("0-2-4-6-")) {
		mem := mixedMem(7)
		before := impl.NestWords(mem, inner)
		for at := range mem {
			behind := impl.NestWords(with(mem, at, mem[at]^1), inner)
			if len(before) != 64 || len(behind) != 64 {
				t.Fatalf("by the map %v there are %d words, and %d", inner, len(before), len(behind))
			}
			for addr := range behind {
				isIt := inner[addr/8] == at/8 && addr%8 == at%8
				if isIt != (before[addr] != behind[addr]) {
					t.Fatalf("by the map %v the word %d matters to the address %d: %v", inner, at, addr, !isIt)
				}
			}
		}
	}
}

func TestP68ByTheMapOfEachPageToItselfAllIsAsItIs(t *testing.T) {
	list := append(memories(), pagesMem())
	for _, b := range bootedBares() {
		list = append(list, b.Mem)
	}
	for _, mem := range list {
		checkWords(t, "each page itself", mem, ownMap(), mem)
	}
}

func TestP68WordsWithinAreAMemory(t *testing.T) {
	for _, mem := range append(memories(), pagesMem()) {
		for _, inner := range nestMaps() {
			words := impl.NestWords(mem, inner)
			if !impl.MemOk(words) {
				t.Fatalf("by the map %v of %v the words are %v", inner, mem, words)
			}
			checkWords(t, "each page itself of a machine within", words, ownMap(), words)
		}
	}
}

// With each word alone at both ends of words and next to them it is still a memory, and itself.
func TestP68EachWordAtEachPlace(t *testing.T) {
	for at := range 64 {
		for _, w := range []int{0, 1, 2, 7, 8, 4094, 4095} {
			mem := with(filledMem(63), at, w)
			checkWords(t, "one word", mem, ownMap(), mem)
		}
	}
}

func checkNoWords(t *testing.T, mem []int, inner []int) {
	t.Helper()
	if words := impl.NestWords(mem, inner); len(words) != 0 {
		t.Fatalf("by the map %v of %v the words are %v", inner, mem, words)
	}
}

func TestNestWordsOfOthers(t *testing.T) {
	for _, mem := range brokenMemories() {
		for _, inner := range [][]int{ownMap(), drawnMap("--------"), drawnMap("00000000"), mixedMap(3), nil, drawnMap("012345678")} {
			checkNoWords(t, mem, inner)
		}
	}
	for _, inner := range brokenMaps() {
		for _, mem := range [][]int{pagesMem(), filledMem(0), mixedMem(1), nil, filledMem(4096), make([]int, 72)} {
			checkNoWords(t, mem, inner)
		}
	}
}

// A word that is none matters wherever it is, also in a page that no page within is.
func TestNestWordsOfWordsThatAreNotSeen(t *testing.T) {
	for at := range 64 {
		for _, n := range noWords() {
			for _, inner := range [][]int{drawnMap("--------"), slices.Repeat([]int{(at/8 + 1) % 8}, 8), with(ownMap(), at/8, -1)} {
				checkNoWords(t, with(pagesMem(), at, n), inner)
			}
		}
	}
}

func checkFrames(t *testing.T, name string, h impl.Host, g int, inner []int, want []int) {
	t.Helper()
	if got := impl.NestFrames(h, g, inner); !slices.Equal(got, want) {
		t.Fatalf("%s: by the map %v the frames of guest %d are %v, and not %v, on %+v", name, inner, g, got, want, h)
	}
}

func TestNestFramesByHand(t *testing.T) {
	cases := []struct {
		name   string
		guests [3]string
		g      int
		inner  string
		want   []int
	}{
		{"each page itself", [3]string{"4w 3wd - 0 1d - 19w"}, 0, "01234567", []int{4, 3, -1, 0, 1, -1, 19, -1}},
		{"pages in another order", [3]string{"4w 3wd - 0 1d - 19w"}, 0, "76543210", []int{-1, 19, -1, 1, 0, -1, 3, 4}},
		{"all pages nowhere", [3]string{"4w 3wd - 0 1d - 19w"}, 0, "--------", []int{-1, -1, -1, -1, -1, -1, -1, -1}},
		{"some pages nowhere", [3]string{"4w 3wd - 0 1d - 19w"}, 0, "-3-2-601", []int{-1, 0, -1, -1, -1, 19, 4, 3}},
		{"all pages one page", [3]string{"4w 3wd - 0 1d - 19w"}, 0, "33333333", []int{0, 0, 0, 0, 0, 0, 0, 0}},
		{"all pages one without a frame", [3]string{"4w 3wd - 0 1d - 19w"}, 0, "55555555", []int{-1, -1, -1, -1, -1, -1, -1, -1}},
		{"a guest without frames", [3]string{"-"}, 0, "01234567", []int{-1, -1, -1, -1, -1, -1, -1, -1}},
		{"the first page and the last one", [3]string{"19w - - - - - - 0wd"}, 0, "7-00-7-7", []int{0, -1, 19, 19, -1, 0, -1, 0}},
		{"a frame of several pages of one guest", [3]string{"6 6d 7w 6"}, 0, "3210----", []int{6, 7, 6, 6, -1, -1, -1, -1}},
		{"guest 1 of all", [3]string{"0w 1w 2w", "10w 11w 12w", "15w 16w 17w"}, 1, "210-0123", []int{12, 11, 10, -1, 10, 11, 12, -1}},
		{"guest 2 of all", [3]string{"0w 1w 2w", "10w 11w 12w", "15w 16w 17w"}, 2, "210-0123", []int{17, 16, 15, -1, 15, 16, 17, -1}},
		{"guest 0 of all", [3]string{"0w 1w 2w", "10w 11w 12w", "15w 16w 17w"}, 0, "210-0123", []int{2, 1, 0, -1, 0, 1, 2, -1}},
		{"a frame that two guests have", [3]string{"5 0w", "", "1w - 5d"}, 2, "2222-110", []int{5, 5, 5, 5, -1, -1, -1, 1}},
		{"guest 1 around two that are gone", [3]string{"", "9w 8 7d"}, 1, "2-1-0---", []int{7, -1, 8, -1, 9, -1, -1, -1}},
		{"guest 2 behind two that are gone", [3]string{"", "", "9w 8 7d"}, 2, "2-1-0---", []int{7, -1, 8, -1, 9, -1, -1, -1}},
		{"a guest of all frames there can be", [3]string{"12w 13w 14w 15w 16w 17w 18w 19w", "0w 1w 2w 3w 4w 5w 6w 7w", "8w 9w 10w 11w"}, 0, "65432107", []int{18, 17, 16, 15, 14, 13, 12, 19}},
	}
	for _, c := range cases {
		h := drawnHost(letters, c.guests)
		if !impl.HostOk(h) {
			t.Fatalf("%s: it is no host: %+v", c.name, h)
		}
		checkFrames(t, c.name, h, c.g, drawnMap(c.inner), c.want)
	}
}

// wantNestFrames goes from pages of the guest to pages within, and not the other way.
func wantNestFrames(h impl.Host, g int, inner []int) []int {
	frames := slices.Repeat([]int{-1}, 8)
	for at, s := range h.Guests[g].Pages {
		for page := range frames {
			if inner[page] == at {
				frames[page] = s.Frame
			}
		}
	}
	return frames
}

// fewMaps has maps for what takes longer: the plain ones by and by, and mixed ones.
func fewMaps(seed int) [][]int {
	plain := plainMaps()
	return [][]int{drawnMap("--------"), ownMap(), plain[seed%len(plain)], mixedMap(seed*4 + 1), mixedMap(seed*4 + 2), mixedMap(seed*4 + 3)}
}

func TestNestFramesOfManyHosts(t *testing.T) {
	guests := make([]int, 4)
	for seed, h := range sharingHosts() {
		guests[len(guestsOf(h))]++
		for _, g := range guestsOf(h) {
			for _, inner := range fewMaps(seed) {
				checkFrames(t, "many hosts", h, g, inner, wantNestFrames(h, g, inner))
			}
		}
	}
	if slices.Min(guests) < 10 {
		t.Errorf("hosts by guests: %v", guests)
	}
}

func TestNestFramesByAllMaps(t *testing.T) {
	for _, h := range []impl.Host{handHost(), shadowHost(), tagHost(), fullHost(0), fullHost(20), crowdedHost(1), entangledHost(34), storeHost(t)} {
		for _, g := range guestsOf(h) {
			for _, inner := range nestMaps() {
				checkFrames(t, "all maps", h, g, inner, wantNestFrames(h, g, inner))
			}
		}
	}
}

// Each frame is that of each page of each guest, and whether it may be written there, and was, does not matter.
func TestNestFramesOfEachSlot(t *testing.T) {
	for g := range 3 {
		for page := range 8 {
			for frame := range 20 {
				for bits := range 4 {
					s := impl.Slot{Frame: frame, Write: bits&1 != 0, Dirty: bits&2 != 0}
					h := withSlot(withGuest(emptyHost(), g, plainGuest()), g, page, s)
					checkFrames(t, "one slot", h, g, ownMap(), with(drawnMap("--------"), page, frame))
					checkFrames(t, "one slot", h, g, slices.Repeat([]int{page}, 8), slices.Repeat([]int{frame}, 8))
				}
			}
		}
	}
}

// The words of frames do not matter to where pages are, zeros neither; nor does what a core is.
func TestNestFramesLookAtSlotsAlone(t *testing.T) {
	for seed, h := range append(mixedHosts(), alikeHosts()[:60]...) {
		other := cloned(h)
		copy(other.Words, make([]int, 160))
		for _, g := range guestsOf(other) {
			other.Guests[g] = guestAs(mixedBare(seed+g), h.Guests[g].Pages)
		}
		for _, g := range guestsOf(h) {
			for _, inner := range fewMaps(seed) {
				checkFrames(t, "other words", other, g, inner, impl.NestFrames(h, g, inner))
			}
		}
	}
}

// checkWithin looks whether the frames of a machine within a guest have the words that it has within what the guest looks like.
func checkWithin(t *testing.T, h impl.Host, g int, inner []int) {
	t.Helper()
	seen, there := impl.HostView(h, g)
	words, frames := impl.NestWords(seen.Mem, inner), impl.NestFrames(h, g, inner)
	if !there || len(words) != 64 || len(frames) != 8 {
		t.Fatalf("by the map %v of guest %d of %+v there are %d words and %d frames", inner, g, h, len(words), len(frames))
	}
	for page, frame := range frames {
		want := make([]int, 8)
		if frame != -1 {
			want = h.Words[frame*8 : frame*8+8]
		}
		if !slices.Equal(words[page*8:page*8+8], want) {
			t.Fatalf("by the map %v page %d within guest %d is %v, and in frame %d is %v", inner, page, g, words[page*8:page*8+8], frame, want)
		}
	}
}

// wordsWithin has the words of a machine within what a guest looks like.
func wordsWithin(t *testing.T, h impl.Host, g int, inner []int) []int {
	t.Helper()
	seen, there := impl.HostView(h, g)
	words := impl.NestWords(seen.Mem, inner)
	if !there || len(words) != 64 {
		t.Fatalf("by the map %v of guest %d of %+v the words are %v", inner, g, h, words)
	}
	return words
}

func TestP27BothMapsInOneLeadWhereTheyLeadOneAfterTheOther(t *testing.T) {
	for seed, h := range sharingHosts() {
		for _, g := range guestsOf(h) {
			for _, inner := range fewMaps(seed) {
				checkWithin(t, h, g, inner)
			}
		}
	}
}

// Pages of all kinds are there: with frames of their own, shared with a page of the guest, or of another one, with zeros in them, without a frame, and nowhere.
func TestP27PagesOfAllKinds(t *testing.T) {
	alone, own, others, zeros, none, nowhere := 0, 0, 0, 0, 0, 0
	for seed, h := range slices.Concat(alikeHosts(), mixedHosts(), cloneRuns(t)) {
		takers := wantTakers(h)
		for _, g := range guestsOf(h) {
			inner := mixedMap(seed + g)
			checkWithin(t, h, g, inner)
			within := [20]int{}
			for _, s := range h.Guests[g].Pages {
				if s.Frame >= 0 {
					within[s.Frame]++
				}
			}
			for page, frame := range impl.NestFrames(h, g, inner) {
				switch {
				case inner[page] == -1:
					nowhere++
				case frame == -1:
					none++
				case isZeros(h.Words[frame*8 : frame*8+8]):
					zeros++
				case takers[frame] == 1:
					alone++
				case within[frame] > 1:
					own++
				default:
					others++
				}
			}
		}
	}
	if min(alone, own, others, zeros, none, nowhere) < 100 {
		t.Errorf("%d pages are alone in frames, %d with their own guest's, %d with others', %d are zeros, %d have no frame, %d are nowhere",
			alone, own, others, zeros, none, nowhere)
	}
}

// Zeros in a frame and in none cannot be told by words, and by frames they can.
func TestP27ZerosInAFrameAndInNone(t *testing.T) {
	h := drawnHost("a.b", [3]string{"0w 1wd - 2w"})
	checkFrames(t, "zeros", h, 0, drawnMap("1-2103--"), []int{1, -1, -1, 1, 0, 2, -1, -1})
	want := slices.Concat(make([]int, 32), letterWords('a'), letterWords('b'), make([]int, 16))
	seen, _ := impl.HostView(h, 0)
	checkWords(t, "zeros", seen.Mem, drawnMap("1-2103--"), want)
	without := withSlot(h, 0, 1, impl.Slot{Frame: -1})
	checkFrames(t, "without them", without, 0, drawnMap("1-2103--"), []int{-1, -1, -1, -1, 0, 2, -1, -1})
	seen, _ = impl.HostView(without, 0)
	checkWords(t, "without them", seen.Mem, drawnMap("1-2103--"), want)
}

// A word of a frame is that of all pages within that have the frame, by whichever page of the guest.
func TestP27WordsOfFramesAreTurned(t *testing.T) {
	for seed, h := range append(mixedHosts()[:25], handHost(), crowdedHost(0)) {
		for _, g := range guestsOf(h) {
			inner := mixedMap(seed)
			before, frames := wordsWithin(t, h, g, inner), impl.NestFrames(h, g, inner)
			for at := range h.Words {
				turned := cloned(h)
				turned.Words[at] ^= 1
				for addr, w := range wordsWithin(t, turned, g, inner) {
					isIt := frames[addr/8] == at/8 && addr%8 == at%8
					if isIt != (w != before[addr]) {
						t.Fatalf("the word %d of the host matters to the address %d within: %v", at, addr, !isIt)
					}
				}
			}
		}
	}
}

// checkSameWithin looks whether the machines within all guests that are on both hosts are the same, by a map, but for one guest that is left out.
func checkSameWithin(t *testing.T, name string, a impl.Host, b impl.Host, but int, inner []int) {
	t.Helper()
	for g := range 3 {
		if g == but || !isThere(a, g) || !isThere(b, g) {
			continue
		}
		checkWithin(t, b, g, inner)
		if before, behind := wordsWithin(t, a, g, inner), wordsWithin(t, b, g, inner); !slices.Equal(before, behind) {
			t.Fatalf("%s is seen within guest %d, by the map %v: it was %v, and is %v", name, g, inner, before, behind)
		}
	}
}

// Clones have their pages within in the same frames, until one of them writes there.
func TestP27ClonesByHand(t *testing.T) {
	h := storeHost(t)
	inner := drawnMap("1-0-21-1")
	for g := range 3 {
		checkFrames(t, "clones", h, g, inner, []int{1, -1, 0, -1, -1, 1, -1, 1})
		checkWithin(t, h, g, inner)
	}
	then, ok := impl.HostStep(h, 1)
	checkHost(t, "a clone that writes", then, ok, stored(h, 1, 2, 100), true)
	checkFrames(t, "who did not write", then, 0, inner, []int{1, -1, 0, -1, -1, 1, -1, 1})
	checkFrames(t, "who wrote", then, 1, inner, []int{2, -1, 0, -1, -1, 2, -1, 2})
	checkFrames(t, "who did not write", then, 2, inner, []int{1, -1, 0, -1, -1, 1, -1, 1})
	checkSameWithin(t, "what a clone writes", h, then, 1, inner)
	seen, _ := impl.HostView(then, 1)
	if words := impl.NestWords(seen.Mem, inner); len(words) != 64 || words[0] != 100 || words[40] != 100 || words[56] != 100 || words[16] != seen.Mem[0] {
		t.Fatalf("what a clone wrote is, within it, %v", words)
	}
}

func TestP27GuestsBehindCloning(t *testing.T) {
	done := 0
	for seed, h := range sharingHosts() {
		for _, g := range guestsOf(h) {
			then, at, ok := impl.HostClone(h, g)
			if !ok {
				continue
			}
			done++
			for _, inner := range fewMaps(seed) {
				checkFrames(t, "a clone", then, at, inner, impl.NestFrames(h, g, inner))
				checkFrames(t, "who was cloned", then, g, inner, impl.NestFrames(h, g, inner))
				checkSameWithin(t, "cloning", h, then, -1, inner)
			}
		}
	}
	if done < 100 {
		t.Errorf("only %d guests were cloned", done)
	}
}

// A page that is written, and only that one, may come into another frame, and is within what the machine alone would have there.
func TestP27GuestsBehindSteps(t *testing.T) {
	filled, written, quiet := 0, 0, 0
	for seed, h := range slices.Concat(runners(t), reachHosts()) {
		for turn, g := range mixedTurns(seed, 12) {
			inner := mixedMap(seed + turn)
			then, ok := impl.HostStep(h, g)
			if !ok {
				continue
			}
			b, _ := impl.HostView(h, g)
			checkWithin(t, then, g, inner)
			checkWords(t, "a machine within a guest that did a step", impl.BareStep(b).Mem, inner, wordsWithin(t, then, g, inner))
			checkSameWithin(t, "a step of another guest", h, then, g, inner)
			before, behind := impl.NestFrames(h, g, inner), impl.NestFrames(then, g, inner)
			switch {
			case !slices.Equal(before, behind):
				filled++
			case !slices.Equal(wordsWithin(t, h, g, inner), wordsWithin(t, then, g, inner)):
				written++
			default:
				quiet++
			}
			h = then
		}
	}
	if min(filled, written, quiet) < 50 {
		t.Errorf("%d steps turned frames of pages within, %d their words, %d neither", filled, written, quiet)
	}
}

// Whoever is filled or copied for has that page within in another frame, and no other one; what is within stays the same.
func TestP27GuestsBehindFillingAndCopying(t *testing.T) {
	filled, copied := 0, 0
	for seed, h := range givenHosts() {
		for _, g := range guestsOf(h) {
			for page := range 8 {
				for kind := range 2 {
					then, ok := impl.HostFill(h, g, page)
					if kind == 1 {
						then, ok = impl.HostCopy(h, g, page)
					}
					if !ok {
						continue
					}
					inner := with(mixedMap(seed+page), seed%8, page)
					checkSameWithin(t, "filling or copying", h, then, -1, inner)
					frame, was := then.Guests[g].Pages[page].Frame, h.Guests[g].Pages[page].Frame
					want := impl.NestFrames(h, g, inner)
					for at := range want {
						if inner[at] == page {
							want[at] = frame
						}
					}
					checkFrames(t, "filling or copying", then, g, inner, want)
					switch {
					case was == -1:
						filled++
					case was != frame:
						copied++
					}
				}
			}
		}
	}
	if min(filled, copied) < 100 {
		t.Errorf("%d pages were filled, %d copied", filled, copied)
	}
}

func TestP27GuestsBehindSharing(t *testing.T) {
	shared, without := 0, 0
	for seed, h := range append(sharingHosts(), fewFrames(t)...) {
		first, second := impl.HostShare(h), impl.HostZero(h)
		both := impl.HostShare(second)
		for _, inner := range fewMaps(seed) {
			checkSameWithin(t, "sharing", h, first, -1, inner)
			checkSameWithin(t, "taking zeros away", h, second, -1, inner)
			checkSameWithin(t, "both", h, both, -1, inner)
			for _, g := range guestsOf(h) {
				if !slices.Equal(impl.NestFrames(h, g, inner), impl.NestFrames(first, g, inner)) {
					shared++
				}
				if !slices.Equal(impl.NestFrames(h, g, inner), impl.NestFrames(second, g, inner)) {
					without++
				}
			}
		}
	}
	if min(shared, without) < 100 {
		t.Errorf("%d machines within came into other frames by sharing, %d by taking zeros away", shared, without)
	}
}

func TestP27GuestsBehindSharingByHand(t *testing.T) {
	h := drawnHost("aba..b", [3]string{"0w 1w 3w 4wd", "", "2w 5w"})
	first, second := drawnMap("3210----"), drawnMap("1-0-1---")
	checkFrames(t, "before", h, 0, first, []int{4, 3, 1, 0, -1, -1, -1, -1})
	checkFrames(t, "before", h, 2, second, []int{5, -1, 2, -1, 5, -1, -1, -1})
	shared := impl.HostShare(h)
	checkFrames(t, "behind sharing", shared, 0, first, []int{3, 3, 1, 0, -1, -1, -1, -1})
	checkFrames(t, "behind sharing", shared, 2, second, []int{1, -1, 0, -1, 1, -1, -1, -1})
	zeroed := impl.HostZero(shared)
	checkFrames(t, "without zeros", zeroed, 0, first, []int{3, -1, 1, 0, -1, -1, -1, -1})
	checkFrames(t, "without zeros", zeroed, 2, second, []int{1, -1, 0, -1, 1, -1, -1, -1})
	own, _ := impl.HostCopy(zeroed, 2, 1)
	checkFrames(t, "behind a copy", own, 2, second, []int{2, -1, 0, -1, 2, -1, -1, -1})
	given, _ := impl.HostGive(own, 2, []int{0})
	checkFrames(t, "behind giving up", given, 2, second, []int{2, -1, -1, -1, 2, -1, -1, -1})
}

// Who gives a page up has it within in no frame, and who is put back has what is within that machine.
func TestP27GuestsBehindGivingUpAndPuttingBack(t *testing.T) {
	gave, back := 0, 0
	for seed, h := range sharingHosts() {
		for _, g := range guestsOf(h) {
			inner, bits := mixedMap(seed), seed*7%256
			then, ok := impl.HostGive(h, g, pagesOfBits(bits, seed))
			if !ok {
				t.Fatalf("guest %d gave nothing up", g)
			}
			want := impl.NestFrames(h, g, inner)
			for page, within := range inner {
				if within >= 0 && bits>>within&1 != 0 && want[page] >= 0 {
					want[page] = -1
					gave++
				}
			}
			checkFrames(t, "giving up", then, g, inner, want)
			checkWithin(t, then, g, inner)
			checkSameWithin(t, "giving up", h, then, g, inner)
			b := backBares()[seed%len(backBares())]
			if then, ok = impl.HostBack(h, g, b); ok {
				back++
				checkWithin(t, then, g, inner)
				checkWords(t, "a machine within one that was put back", b.Mem, inner, wordsWithin(t, then, g, inner))
				checkSameWithin(t, "putting back", h, then, g, inner)
			}
		}
	}
	if min(gave, back) < 100 {
		t.Errorf("%d pages within were given up, %d guests were put back", gave, back)
	}
}

func TestP27GuestsBehindMoving(t *testing.T) {
	ended := 0
	for seed, j := range journeys(t) {
		here, there, n, steps, ok := impl.MoveAll(j.from, j.to, j.g, j.acts)
		if !ok {
			continue
		}
		ended++
		b, _ := impl.HostView(j.from, j.g)
		for _, inner := range fewMaps(seed) {
			checkWithin(t, there, n, inner)
			checkWords(t, "a machine within one that moved", impl.BareRun(b, steps).Mem, inner, wordsWithin(t, there, n, inner))
			checkSameWithin(t, "who moved", j.from, here, -1, inner)
			checkSameWithin(t, "who came", j.to, there, -1, inner)
			checkFrames(t, "who is gone", here, j.g, inner, nil)
		}
	}
	if ended < 100 {
		t.Errorf("only %d guests moved", ended)
	}
}

// In between the pages that were not sent yet are in no frame there; behind the move they are.
func TestP27GuestsThatMoveByHand(t *testing.T) {
	from := drawnHost("abc.", [3]string{"", "2w 1wd 3w 0w"})
	to := drawnHost("", [3]string{"0w 1w"})
	inner := drawnMap("3-012-47")
	checkFrames(t, "before", from, 1, inner, []int{0, -1, 2, 1, 3, -1, -1, -1})
	m, _ := impl.MoveBegin(from, to, 1)
	checkFrames(t, "the beginning here", m.From, 1, inner, []int{0, -1, 2, 1, 3, -1, -1, -1})
	checkFrames(t, "the beginning there", m.To, m.N, inner, slices.Repeat([]int{-1}, 8))
	for _, page := range []int{3, 2, 0} {
		m, _ = impl.MoveDo(m, sendAct(page))
	}
	checkFrames(t, "in between", m.To, m.N, inner, []int{2, -1, 3, -1, -1, -1, -1, -1})
	here, there, n, _, ok := impl.MoveAll(from, to, 1, nil)
	if !ok || n != 1 {
		t.Fatalf("it moved as guest %d, %v", n, ok)
	}
	checkFrames(t, "behind it", there, 1, inner, []int{4, -1, 2, 3, -1, -1, -1, -1})
	checkFrames(t, "who was there", there, 0, inner, []int{-1, -1, 0, 1, -1, -1, -1, -1})
	checkFrames(t, "who is gone", here, 1, inner, nil)
}

func TestNestFramesOfGuestsThatAreNotThere(t *testing.T) {
	list := append(givenHosts(), impl.HostNew(0))
	for there := range 8 {
		h := fullHost(0)
		for g := range 3 {
			if there>>g&1 == 0 {
				h.Guests[g] = impl.Guest{}
			}
		}
		list = append(list, h)
	}
	gone, there := 0, 0
	for seed, h := range list {
		for _, g := range append(numbersOfGuests(), 7, 8, 20, 1<<32+1, -1<<32) {
			for _, inner := range fewMaps(seed) {
				if isThere(h, g) {
					there++
					checkFrames(t, "who is there", h, g, inner, wantNestFrames(h, g, inner))
				} else {
					gone++
					checkFrames(t, "nobody there", h, g, inner, nil)
				}
			}
		}
	}
	if min(gone, there) < 500 {
		t.Errorf("%d guests were not there, %d were", gone, there)
	}
}

func TestNestFramesOfOtherHosts(t *testing.T) {
	for _, h := range append(brokenHosts(), otherHosts()...) {
		for g := -1; g <= 3; g++ {
			for _, inner := range [][]int{ownMap(), drawnMap("--------"), drawnMap("70-07-12")} {
				checkFrames(t, "no host", h, g, inner, nil)
			}
		}
	}
}

func TestNestFramesByOtherMaps(t *testing.T) {
	for _, inner := range brokenMaps() {
		for _, h := range []impl.Host{handHost(), fullHost(0), fullHost(20), crowdedHost(0), emptyHost(), {}} {
			for g := -1; g <= 3; g++ {
				checkFrames(t, "no map", h, g, inner, nil)
			}
		}
	}
}

func checkMaps(t *testing.T, name string, outer []int, inner []int, want []int) {
	t.Helper()
	if got := impl.NestMaps(outer, inner); !slices.Equal(got, want) {
		t.Fatalf("%s: of %v and %v the map is %v, and not %v", name, outer, inner, got, want)
	}
}

func TestNestMapsByHand(t *testing.T) {
	cases := []struct{ name, outer, inner, want string }{
		{"the outer one turned, and the inner one turned back", "12345670", "70123456", "01234567"},
		{"the inner one takes the outer one's pages", "53170246", "20000001", "15555553"},
		{"the other way round", "20000001", "53170246", "00012000"},
		{"the outer one tells nowhere", "53-7-246", "01234567", "53-7-246"},
		{"the outer one tells nowhere of a page that the inner one has twice", "53-7-246", "22004466", "--55--44"},
		{"the outer one tells nowhere of a page that the inner one does not have", "53-7-246", "00113355", "55337722"},
		{"the inner one tells nowhere", "53170246", "0-2-4-6-", "5-1-0-4-"},
		{"both tell nowhere, of other pages", "53-7-246", "-12-3567", "-3--7246"},
		{"both tell nowhere, of one page", "53-70246", "01-34567", "53-70246"},
		{"both tell nowhere of all", "--------", "--------", "--------"},
		{"the outer one tells nowhere of all", "--------", "53170246", "--------"},
		{"the inner one tells nowhere of all", "53170246", "--------", "--------"},
		{"only the last page is somewhere, by the outer one", "-------7", "77777777", "77777777"},
		{"only the last page is nowhere, by the outer one", "0123456-", "77777777", "--------"},
		{"only the first page is nowhere, by the outer one", "-1234567", "00000001", "-------1"},
		{"all are one page", "33333333", "66666666", "33333333"},
		{"all are one page, and one is nowhere", "33333333", "6666-666", "3333-333"},
		{"each page itself, on either side", "01234567", "01234567", "01234567"},
	}
	for _, c := range cases {
		checkMaps(t, c.name, drawnMap(c.outer), drawnMap(c.inner), drawnMap(c.want))
	}
}

// wantNestMaps goes from the pages of the first machine to those of the second one, and not the other way.
func wantNestMaps(outer []int, inner []int) []int {
	want := slices.Repeat([]int{-1}, 8)
	for at, page := range outer {
		for within := range want {
			if inner[within] == at {
				want[within] = page
			}
		}
	}
	return want
}

func TestNestMapsOfManyMaps(t *testing.T) {
	outerTells, innerTells, bothTell, somewhere := 0, 0, 0, 0
	for _, outer := range nestMaps() {
		for _, inner := range nestMaps() {
			checkMaps(t, "many maps", outer, inner, wantNestMaps(outer, inner))
			for page, within := range inner {
				switch {
				case within == -1 && outer[page] == -1:
					bothTell++
				case within == -1:
					innerTells++
				case outer[within] == -1:
					outerTells++
				default:
					somewhere++
				}
			}
		}
	}
	if min(outerTells, innerTells, bothTell, somewhere) < 1000 {
		t.Errorf("nowhere by the outer map: %d, by the inner one: %d, by both: %d; somewhere: %d", outerTells, innerTells, bothTell, somewhere)
	}
}

// Each page within is by itself: the inner map tells each number of it, and the outer one each number of that page.
func TestNestMapsOfEachPageAtEachPlace(t *testing.T) {
	for page := range 8 {
		for within := range 8 {
			for at := -1; at <= 7; at++ {
				outer, inner := with(drawnMap("12345670"), within, at), with(drawnMap("--------"), page, within)
				checkMaps(t, "one page", outer, inner, with(drawnMap("--------"), page, at))
				checkMaps(t, "one page among all", outer, with(ownMap(), page, within), with(outer, page, at))
			}
			outer, inner := with(drawnMap("12345670"), within, -1), with(ownMap(), page, -1)
			checkMaps(t, "one page nowhere by both", outer, inner, with(outer, page, -1))
		}
	}
}

func TestP69MapsOfMapsAreMaps(t *testing.T) {
	for _, outer := range nestMaps() {
		for _, inner := range nestMaps() {
			if both := impl.NestMaps(outer, inner); !impl.NestOk(both) {
				t.Fatalf("of %v and %v the map is %v", outer, inner, both)
			}
		}
	}
}

func TestP69WithTheMapOfEachPageToItselfItIsTheOtherOne(t *testing.T) {
	for _, inner := range append(nestMaps(), mixedMaps(200)...) {
		checkMaps(t, "each page itself in the memory", ownMap(), inner, inner)
		checkMaps(t, "each page itself in the first machine", inner, ownMap(), inner)
	}
	checkMaps(t, "each page itself on both sides", ownMap(), ownMap(), ownMap())
}

// What is nowhere on one side is nowhere.
func TestP69WithPagesNowhereOnOneSide(t *testing.T) {
	for bits := range 256 {
		for _, m := range mixedMaps(8) {
			checkMaps(t, "pages nowhere in the first machine", m, withNowhere(ownMap(), bits), withNowhere(m, bits))
			want := slices.Clone(m)
			for page, within := range m {
				if within >= 0 && bits>>within&1 != 0 {
					want[page] = -1
				}
			}
			checkMaps(t, "pages nowhere in the memory", withNowhere(ownMap(), bits), m, want)
		}
	}
}

func checkTwoLevels(t *testing.T, mem []int, outer []int, inner []int) {
	t.Helper()
	first := impl.NestWords(mem, outer)
	both := impl.NestMaps(outer, inner)
	if words := impl.NestWords(first, inner); len(words) != 64 || !slices.Equal(impl.NestWords(mem, both), words) {
		t.Fatalf("by %v and then %v the words are %v, and by both, %v, they are %v", outer, inner, words, both, impl.NestWords(mem, both))
	}
}

func TestP28TwoLevelsAreOne(t *testing.T) {
	for _, outer := range nestMaps() {
		for _, inner := range nestMaps() {
			checkTwoLevels(t, pagesMem(), outer, inner)
		}
	}
	for seed, mem := range slices.Repeat(memories(), 20) {
		checkTwoLevels(t, mem, mixedMap(seed), mixedMap(seed*3+1))
	}
}

func TestP28TwoLevelsByHand(t *testing.T) {
	mem := make([]int, 64)
	copy(mem[24:], []int{31, 32, 33, 34, 35, 36, 37, 38})
	copy(mem[48:], []int{61, 62, 63, 64, 65, 66, 67, 68})
	outer, inner := drawnMap("6--30---"), drawnMap("31-0-4-3")
	first := slices.Concat([]int{61, 62, 63, 64, 65, 66, 67, 68}, make([]int, 16), []int{31, 32, 33, 34, 35, 36, 37, 38}, make([]int, 32))
	second := slices.Concat([]int{31, 32, 33, 34, 35, 36, 37, 38}, make([]int, 16), []int{61, 62, 63, 64, 65, 66, 67, 68}, make([]int, 24), []int{31, 32, 33, 34, 35, 36, 37, 38})
	checkWords(t, "the first level", mem, outer, first)
	checkWords(t, "the second level", first, inner, second)
	checkMaps(t, "both levels", outer, inner, drawnMap("3--6-0-3"))
	checkWords(t, "both levels in one", mem, drawnMap("3--6-0-3"), second)
}

// Of three machines, each within the one before it, the map is the same whichever two are put together first, and so are the words, level by level, and by each way to put maps together.
func TestP28ThreeLevelsInEachWay(t *testing.T) {
	list := append(mixedMaps(12), drawnMap("--------"), ownMap(), drawnMap("12345670"), drawnMap("0000----"), drawnMap("-1-3-5-7"))
	for k, a := range list {
		for _, b := range list {
			for _, c := range list {
				left, right := impl.NestMaps(impl.NestMaps(a, b), c), impl.NestMaps(a, impl.NestMaps(b, c))
				checkSame(t, "three maps in one", left, right)
				mem := mixedMem(k)
				words := impl.NestWords(impl.NestWords(impl.NestWords(mem, a), b), c)
				if len(words) != 64 || len(left) != 8 {
					t.Fatalf("by %v, %v and %v there are %d words, and %d pages", a, b, c, len(words), len(left))
				}
				checkWords(t, "three levels in one", mem, left, words)
				checkWords(t, "two levels, and then one", impl.NestWords(mem, impl.NestMaps(a, b)), c, words)
				checkWords(t, "one level, and then two", impl.NestWords(mem, a), impl.NestMaps(b, c), words)
			}
		}
	}
}

// On a host the frames of a machine within a machine within a guest are those by both maps in one.
func TestP28TwoLevelsWithinAGuest(t *testing.T) {
	for seed, h := range slices.Concat(sharingHosts(), cloneRuns(t), fewFrames(t)) {
		for _, g := range guestsOf(h) {
			for k := range 4 {
				outer, inner := mixedMap(seed*3+k), mixedMap(seed*5+k*7+2)
				both := impl.NestMaps(outer, inner)
				checkWithin(t, h, g, both)
				first, want := impl.NestFrames(h, g, outer), slices.Repeat([]int{-1}, 8)
				for page, within := range inner {
					if within >= 0 {
						want[page] = first[within]
					}
				}
				checkFrames(t, "both levels", h, g, both, want)
				seen, _ := impl.HostView(h, g)
				checkTwoLevels(t, seen.Mem, outer, inner)
			}
		}
	}
}

func TestNestMapsOfOthers(t *testing.T) {
	for k, broken := range brokenMaps() {
		for _, m := range [][]int{ownMap(), drawnMap("--------"), drawnMap("00000000"), drawnMap("77777777"), mixedMap(k), nil, drawnMap("012345678")} {
			checkMaps(t, "an outer one that is none", broken, m, nil)
			checkMaps(t, "an inner one that is none", m, broken, nil)
		}
		checkMaps(t, "both are none", broken, broken, nil)
		checkMaps(t, "both are none", broken, brokenMaps()[k*31%len(brokenMaps())], nil)
	}
}

// A number that is none matters wherever it is, also for a page that the inner map does not have.
func TestNestMapsOfPagesThatAreNotAskedFor(t *testing.T) {
	for page := range 8 {
		for _, n := range noPages() {
			outer := with(ownMap(), page, n)
			for _, inner := range [][]int{drawnMap("--------"), slices.Repeat([]int{(page + 1) % 8}, 8), with(ownMap(), page, -1)} {
				checkMaps(t, "a page that is not asked for", outer, inner, nil)
			}
		}
	}
}

// checkNestsApart looks whether all that this chapter answers is new memory, and what was given is as it was.
func checkNestsApart(t *testing.T, h impl.Host, mem []int, outer []int, inner []int) {
	t.Helper()
	host, words, first, second := clonedWithRoom(h), clonedWithRoom(mem), clonedWithRoom(outer), clonedWithRoom(inner)
	before := wholeOf(host, words, first, second)
	impl.NestOk(first)
	impl.NestOk(second)
	seen := impl.NestWords(words, second)
	checkNewMemory(t, "the words within", seen, words, second)
	checkNewMemory(t, "the words within, again,", impl.NestWords(words, second), words, second, seen)
	both := impl.NestMaps(first, second)
	checkNewMemory(t, "a map of two", both, first, second)
	checkNewMemory(t, "a map of two, again,", impl.NestMaps(first, second), first, second, both)
	for g := -1; g <= 3; g++ {
		frames := impl.NestFrames(host, g, second)
		checkNewMemory(t, "the frames within", frames, host, second)
		checkNewMemory(t, "the frames within, again,", impl.NestFrames(host, g, second), host, second, frames)
	}
	if !slices.Equal(wholeOf(host, words, first, second), before) {
		t.Fatalf("what is given was written to: %+v, %v, %v, %v", h, mem, outer, inner)
	}
}

func TestNestsAreNewMemory(t *testing.T) {
	all := nestMaps()
	for k, h := range append(apartHosts(), alikeHosts()[:60]...) {
		mem := memories()[k%len(memories())]
		checkNestsApart(t, h, mem, all[k%len(all)], all[k*7%len(all)])
		checkNestsApart(t, h, mem, ownMap(), all[k%len(all)])
		checkNestsApart(t, h, mem, all[k%len(all)], ownMap())
	}
	for k, h := range brokenHosts() {
		if k%13 == 0 {
			checkNestsApart(t, h, pagesMem(), ownMap(), ownMap())
		}
	}
	for k, mem := range brokenMemories() {
		if k%7 == 0 {
			checkNestsApart(t, handHost(), mem, ownMap(), drawnMap("--------"))
		}
	}
	for k, broken := range brokenMaps() {
		if k%7 == 0 {
			checkNestsApart(t, handHost(), pagesMem(), broken, ownMap())
			checkNestsApart(t, handHost(), pagesMem(), ownMap(), broken)
		}
	}
}

// What is answered can be written to without turning what was given, and what is answered next.
func TestNestsThatAreWrittenTo(t *testing.T) {
	h, mem, outer, inner := handHost(), pagesMem(), drawnMap("53-7-246"), drawnMap("01234567")
	host, words, first, second := cloned(h), slices.Clone(mem), slices.Clone(outer), slices.Clone(inner)
	for range 2 {
		seen, frames, both := impl.NestWords(words, second), impl.NestFrames(host, 0, second), impl.NestMaps(first, second)
		checkSame(t, "the words within", seen, mem)
		checkSame(t, "the frames within", frames, []int{3, -1, 0, 5, 5, -1, 19, -1})
		checkSame(t, "a map of two", both, outer)
		for _, row := range [][]int{seen, frames, both} {
			for k := range row {
				row[k] = 5
			}
			_ = append(row, 6, 7)
		}
	}
	checkSame(t, "what was given", [][]int{words, first, second}, [][]int{mem, outer, inner})
	checkSame(t, "the host that was given", host, h)
}

// A map can be both maps, and part of the memory or of the words of the host.
func TestNestsOfListsThatShareMemory(t *testing.T) {
	for _, m := range append(mixedMaps(20), ownMap(), drawnMap("12345670"), drawnMap("--------")) {
		given := slices.Clone(m)
		both := impl.NestMaps(given, given)
		checkSame(t, "a map of one twice", both, wantNestMaps(m, m))
		checkNewMemory(t, "a map of one twice", both, given)
		row := append(slices.Clone(m), m[:4]...)
		both = impl.NestMaps(row[:8], row[4:])
		checkSame(t, "a map of two that share pages", both, wantNestMaps(row[:8], row[4:]))
		checkNewMemory(t, "a map of two that share pages", both, row)
		checkSame(t, "the maps that were given", [][]int{given, row}, [][]int{m, append(slices.Clone(m), m[:4]...)})
	}
	mem := pagesMem()
	copy(mem[13:], []int{7, 1, 0, 2, 2, 6, 5, 1})
	before := slices.Clone(mem)
	checkWords(t, "a map that lies in the memory", mem, mem[13:21], wantNestWords(before, drawnMap("71022651")))
	checkNewMemory(t, "words by a map that lies in the memory", impl.NestWords(mem, mem[13:21]), mem)
	checkSame(t, "the memory that was given", mem, before)
	h := hostOfOneRow()
	copy(h.Words[100:], []int{2, 5, 2, 0, 5, 7, 6, 2})
	host := cloned(h)
	for g := range 2 {
		checkFrames(t, "a map that lies in frames", h, g, h.Words[100:108], []int{11, 0, 11, -1, 0, -1, -1, 11})
		checkNewMemory(t, "frames by a map that lies in frames", impl.NestFrames(h, g, h.Words[100:108]), h)
		checkWords(t, "a memory that lies in frames", h.Words[50:114], h.Words[100:108], wantNestWords(host.Words[50:114], drawnMap("25205762")))
	}
	checkSame(t, "the host that was given", h, host)
}
