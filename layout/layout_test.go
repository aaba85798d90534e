package layout

import (
	"math"
	"testing"

	"dustpan/api"
)

// somePages are the first, the last, and those around what a map's word is for.
func somePages() []int { return []int{1, 2, 3, 63, 64, 65, 70, 127, 128, 129, 4032, 4033, 4095, 4096} }

func someThreads() []int { return []int{1, 2, 3, 14, 63, 64} }

func someLayouts() []api.Layout {
	var list []api.Layout
	for _, p := range somePages() {
		for _, n := range someThreads() {
			list = append(list, api.Layout{Pages: p, Threads: n})
		}
	}
	return list
}

// far are numbers below 0, and far above all that may be; some have the lowest bits of one that may be, and some go round to one when they are multiplied.
func far() []int {
	return []int{
		-1, -2, -14, -64, -65, math.MinInt32, -1 << 32, -1<<32 + 1, -1 << 60, -1 << 61, -1 << 62, math.MinInt + 1, math.MinInt,
		4097, 1 << 16, 1<<31 + 1, 1 << 32, 1<<32 + 1, 1 << 58, 1 << 60, 1 << 61, 1<<62 + 1, math.MaxInt - 63, math.MaxInt - 1, math.MaxInt,
	}
}

// noLayouts have too few, or too many, of one thing or of both.
func noLayouts() []api.Layout {
	pages, threads := append(far(), 0), append(far(), 0, 65, 4096)
	var list []api.Layout
	for _, p := range pages {
		for _, n := range append(threads, someThreads()...) {
			list = append(list, api.Layout{Pages: p, Threads: n})
		}
	}
	for _, p := range somePages() {
		for _, n := range threads {
			list = append(list, api.Layout{Pages: p, Threads: n})
		}
	}
	return list
}

// mapWords is reckoned by going through the pages, not by dividing.
func mapWords(pages int) int {
	n := 0
	for first := 0; first < pages; first += 64 {
		n++
	}
	return n
}

// begins are where the words of pages, KIndex, KUsed and KGone begin, and how many words there are, as the chapter says them.
func begins(l api.Layout) (states, index, used, gone, end int) {
	states = 68 + 14*l.Threads
	index = states + 5*l.Pages
	used = index + l.Pages
	gone = used + mapWords(l.Pages)
	return states, index, used, gone, gone + mapWords(l.Pages)
}

// found is what a call answered: a word, or none.
type found struct {
	at int
	ok bool
}

var none = found{0, false}

func head(l api.Layout, class int, full bool, parity int) found {
	at, ok := Head(l, class, full, parity)
	return found{at, ok}
}

func cache(l api.Layout, thread, class int) found {
	at, ok := Cache(l, thread, class)
	return found{at, ok}
}

func page(l api.Layout, kind, p int) found {
	at, ok := Page(l, kind, p)
	return found{at, ok}
}

func mapped(l api.Layout, kind, which int) found {
	at, ok := Map(l, kind, which)
	return found{at, ok}
}

func want(t *testing.T, what string, l api.Layout, asked any, got, want found) {
	t.Helper()
	if got != want {
		t.Errorf("%s of %v, %v: %d, %t, want %d, %t", what, l, asked, got.at, got.ok, want.at, want.ok)
	}
}

func wantName(t *testing.T, l api.Layout, at int, spot api.Spot) {
	t.Helper()
	if got, ok := Name(l, at); got != spot || !ok {
		t.Errorf("Name(%v, %d): %v, %t, want %v, true", l, at, got, ok, spot)
	}
}

func wantNoName(t *testing.T, l api.Layout, at int) {
	t.Helper()
	if got, ok := Name(l, at); got != (api.Spot{}) || ok {
		t.Errorf("Name(%v, %d): %v, %t, want none", l, at, got, ok)
	}
}

// 8.1: all layouts that may be.
func TestAllLayouts(t *testing.T) {
	for p := 1; p <= 4096; p++ {
		maps := mapWords(p)
		for n := 1; n <= 64; n++ {
			l := api.Layout{Pages: p, Threads: n}
			if words := 68 + 14*n + 6*p + 2*maps; !May(l) || Words(l) != words {
				t.Fatalf("of %v: May %t, Words %d, want true, %d", l, May(l), Words(l), words)
			}
		}
	}
}

// 8.1: how many words, written out.
func TestWordsWrittenOut(t *testing.T) {
	for l, words := range map[api.Layout]int{
		{Pages: 1, Threads: 1}:     90,
		{Pages: 1, Threads: 2}:     104,
		{Pages: 2, Threads: 1}:     96,
		{Pages: 63, Threads: 1}:    462,
		{Pages: 64, Threads: 1}:    468,
		{Pages: 65, Threads: 1}:    476,
		{Pages: 1, Threads: 64}:    972,
		{Pages: 4096, Threads: 1}:  24786,
		{Pages: 4095, Threads: 64}: 25662,
		{Pages: 4096, Threads: 64}: 25668,
	} {
		if got := Words(l); got != words || !May(l) {
			t.Errorf("of %v: May %t, Words %d, want true, %d", l, May(l), got, words)
		}
	}
}

// 8.1: all words of a layout are room of a store.
func TestWordsAreRoomOfAStore(t *testing.T) {
	if got := Words(api.Layout{Pages: api.MaxPages, Threads: api.MaxThreads}); got > api.MaxWords {
		t.Errorf("%d words, more than a store's", got)
	}
}

// 8.1, R1, R3: of what may not be Words is 0, all else false.
func TestNoLayouts(t *testing.T) {
	for _, l := range noLayouts() {
		if May(l) || Words(l) != 0 {
			t.Errorf("of %v: May %t, Words %d, want false, 0", l, May(l), Words(l))
		}
		for _, n := range append(far(), 0, 1, 2, 8, 68, 82) {
			for kind := -1; kind <= 17; kind++ {
				want(t, "Page", l, [2]int{kind, n}, page(l, kind, n), none)
				want(t, "Map", l, [2]int{kind, n}, mapped(l, kind, n), none)
			}
			want(t, "Head", l, n, head(l, n, true, 0), none)
			want(t, "Head", l, n, head(l, 0, false, n), none)
			want(t, "Cache", l, n, cache(l, n, 0), none)
			want(t, "Cache", l, n, cache(l, 0, n), none)
			wantNoName(t, l, n)
		}
	}
}

// 8.2: each head, and those beside them.
func TestHeads(t *testing.T) {
	for _, l := range someLayouts() {
		for class := -2; class <= 16; class++ {
			for parity := -2; parity <= 3; parity++ {
				some, full := none, none
				if class >= 0 && class <= 14 && (parity == 0 || parity == 1) {
					some, full = found{8 + 4*class + parity, true}, found{10 + 4*class + parity, true}
				}
				want(t, "Head", l, [2]int{class, parity}, head(l, class, false, parity), some)
				want(t, "Head, full", l, [2]int{class, parity}, head(l, class, true, parity), full)
			}
		}
	}
}

// 8.2, R1, R3
func TestNoHeads(t *testing.T) {
	l := api.Layout{Pages: 70, Threads: 3}
	for _, n := range append(far(), 15, 16, 64) {
		for _, full := range []bool{false, true} {
			for other := -1; other <= 15; other++ {
				want(t, "Head", l, [2]int{n, other}, head(l, n, full, other), none)
				want(t, "Head", l, [2]int{other, n}, head(l, other, full, n), none)
			}
			for _, m := range far() {
				want(t, "Head", l, [2]int{n, m}, head(l, n, full, m), none)
			}
		}
	}
}

// 8.2: each cache, and those beside them; of Large there is none.
func TestCaches(t *testing.T) {
	for _, l := range someLayouts() {
		for thread := -2; thread <= l.Threads+2; thread++ {
			for class := -2; class <= 16; class++ {
				some := none
				if thread >= 0 && thread < l.Threads && class >= 0 && class <= 13 {
					some = found{68 + 14*thread + class, true}
				}
				want(t, "Cache", l, [2]int{thread, class}, cache(l, thread, class), some)
			}
		}
	}
}

// 8.2, R1, R3
func TestNoCaches(t *testing.T) {
	l := api.Layout{Pages: 70, Threads: 3}
	for _, n := range append(far(), 14, 15, 64) {
		for other := -1; other <= 15; other++ {
			want(t, "Cache", l, [2]int{n, other}, cache(l, n, other), none)
			want(t, "Cache", l, [2]int{other, n}, cache(l, other, n), none)
		}
		for _, m := range far() {
			want(t, "Cache", l, [2]int{n, m}, cache(l, n, m), none)
		}
	}
}

// pageWord is the word of a kind of a page, as the chapter says it.
func pageWord(l api.Layout, kind, p int) found {
	states, index, _, _, _ := begins(l)
	sides := map[int]int{api.KState: 0, api.KBase: 1, api.KNext: 2, api.KAlloc: 3, api.KMark: 4}
	i, ok := sides[kind]
	switch {
	case p < 0 || p >= l.Pages:
		return none
	case kind == api.KIndex:
		return found{index + p, true}
	case ok:
		return found{states + 5*p + i, true}
	}
	return none
}

// 8.2: each page of each kind, and pages beside them.
func TestPages(t *testing.T) {
	for _, l := range someLayouts() {
		for p := -2; p <= l.Pages+2; p++ {
			for kind := api.KState; kind <= api.KIndex; kind++ {
				want(t, "Page", l, [2]int{kind, p}, page(l, kind, p), pageWord(l, kind, p))
			}
		}
	}
}

// 8.2: each kind, those that Page does not name too.
func TestKindsOfPages(t *testing.T) {
	for _, l := range someLayouts() {
		for _, p := range []int{-1, 0, 1, l.Pages - 1, l.Pages} {
			for kind := -1; kind <= 18; kind++ {
				want(t, "Page", l, [2]int{kind, p}, page(l, kind, p), pageWord(l, kind, p))
			}
		}
	}
}

// 8.2, R1, R3
func TestNoPages(t *testing.T) {
	l := api.Layout{Pages: 70, Threads: 3}
	for _, n := range append(far(), 70, 71, 127, 128) {
		for kind := -1; kind <= 18; kind++ {
			want(t, "Page", l, [2]int{kind, n}, page(l, kind, n), none)
		}
		for _, p := range []int{-1, 0, 1, 69, 70} {
			want(t, "Page", l, [2]int{n, p}, page(l, n, p), none)
		}
		for _, m := range far() {
			want(t, "Page", l, [2]int{n, m}, page(l, n, m), none)
		}
	}
}

// mapWord is the word of a map, as the chapter says it.
func mapWord(l api.Layout, kind, which int) found {
	_, _, used, gone, _ := begins(l)
	switch {
	case which < 0 || which >= mapWords(l.Pages):
		return none
	case kind == api.KUsed:
		return found{used + which, true}
	case kind == api.KGone:
		return found{gone + which, true}
	}
	return none
}

// 8.2: each word of both maps, and those beside them, of each kind.
func TestMaps(t *testing.T) {
	for _, l := range someLayouts() {
		for which := -2; which <= mapWords(l.Pages)+2; which++ {
			for kind := -1; kind <= 18; kind++ {
				want(t, "Map", l, [2]int{kind, which}, mapped(l, kind, which), mapWord(l, kind, which))
			}
		}
	}
}

// 8.2: the last word of a map is for fewer pages, unless there are a multiple of 64.
func TestLastWordOfMaps(t *testing.T) {
	for pages, last := range map[int]int{1: 0, 63: 0, 64: 0, 65: 1, 127: 1, 128: 1, 129: 2, 4032: 62, 4033: 63, 4095: 63, 4096: 63} {
		l := api.Layout{Pages: pages, Threads: 2}
		first := 96 + 6*pages
		want(t, "Map KUsed", l, last, mapped(l, api.KUsed, last), found{first + last, true})
		want(t, "Map KUsed", l, last+1, mapped(l, api.KUsed, last+1), none)
		want(t, "Map KGone", l, last, mapped(l, api.KGone, last), found{first + 2*last + 1, true})
		want(t, "Map KGone", l, last+1, mapped(l, api.KGone, last+1), none)
	}
}

// 8.2, R1, R3
func TestNoMaps(t *testing.T) {
	l := api.Layout{Pages: 70, Threads: 3}
	for _, n := range append(far(), 2, 3, 64, 69, 70) {
		for kind := -1; kind <= 18; kind++ {
			want(t, "Map", l, [2]int{kind, n}, mapped(l, kind, n), none)
		}
		for which := -1; which <= 2; which++ {
			want(t, "Map", l, [2]int{n, which}, mapped(l, n, which), none)
		}
		for _, m := range far() {
			want(t, "Map", l, [2]int{n, m}, mapped(l, n, m), none)
		}
	}
}

// 8.3: the words that stand alone, and the spare ones.
func TestNamesOfTheFirstWords(t *testing.T) {
	kinds := []int{api.KGen, api.KWorld, api.KLock, api.KCursor, api.KBusy, api.KSpare, api.KSpare, api.KSpare}
	for _, l := range someLayouts() {
		for at, kind := range kinds {
			wantName(t, l, at, api.Spot{Kind: kind})
		}
		wantName(t, l, api.WGen, api.Spot{Kind: api.KGen})
		wantName(t, l, api.WWorld, api.Spot{Kind: api.KWorld})
		wantName(t, l, api.WLock, api.Spot{Kind: api.KLock})
		wantName(t, l, api.WCursor, api.Spot{Kind: api.KCursor})
		wantName(t, l, api.WBusy, api.Spot{Kind: api.KBusy})
		wantName(t, l, api.WHeads, api.Spot{Kind: api.KHead})
	}
}

// 8.3: the first word and the last one of each part. (Of few pages they may be one; then both rows say the same.)
func TestNamesAtTheEdgesOfParts(t *testing.T) {
	for _, l := range someLayouts() {
		states, index, used, gone, end := begins(l)
		last, lastMap := l.Pages-1, mapWords(l.Pages)-1
		for at, spot := range map[int]api.Spot{
			8:          {Kind: api.KHead},
			67:         {Kind: api.KHead, A: 14, B: 3},
			68:         {Kind: api.KCache},
			states - 1: {Kind: api.KCache, A: l.Threads - 1, B: 13},
			states:     {Kind: api.KState},
			index - 1:  {Kind: api.KMark, A: last},
			index:      {Kind: api.KIndex},
			used - 1:   {Kind: api.KIndex, A: last},
			used:       {Kind: api.KUsed},
			gone - 1:   {Kind: api.KUsed, A: lastMap},
			gone:       {Kind: api.KGone},
			end - 1:    {Kind: api.KGone, A: lastMap},
		} {
			wantName(t, l, at, spot)
		}
		wantNoName(t, l, end)
		wantNoName(t, l, end+1)
	}
}

// 8.3: what is where, written out.
func TestNamesWrittenOut(t *testing.T) {
	l := api.Layout{Pages: 70, Threads: 3}
	for at, spot := range map[int]api.Spot{
		9:   {Kind: api.KHead, B: 1},
		10:  {Kind: api.KHead, B: 2},
		11:  {Kind: api.KHead, B: 3},
		12:  {Kind: api.KHead, A: 1},
		63:  {Kind: api.KHead, A: 13, B: 3},
		64:  {Kind: api.KHead, A: 14},
		81:  {Kind: api.KCache, B: 13},
		82:  {Kind: api.KCache, A: 1},
		97:  {Kind: api.KCache, A: 2, B: 1},
		110: {Kind: api.KState},
		111: {Kind: api.KBase},
		112: {Kind: api.KNext},
		113: {Kind: api.KAlloc},
		114: {Kind: api.KMark},
		115: {Kind: api.KState, A: 1},
		457: {Kind: api.KNext, A: 69},
		461: {Kind: api.KIndex, A: 1},
		531: {Kind: api.KUsed, A: 1},
		532: {Kind: api.KGone},
		533: {Kind: api.KGone, A: 1},
	} {
		wantName(t, l, at, spot)
	}
}

// 8.3, R1, R3
func TestNoNames(t *testing.T) {
	for _, l := range someLayouts() {
		end := Words(l)
		for _, at := range []int{end, end + 1, end + 63, 2 * end, api.MaxWords, 1 << 32, 1<<32 + 1, math.MaxInt - 1, math.MaxInt, -1, -2, -end, -1 << 32, math.MinInt + 1, math.MinInt} {
			wantNoName(t, l, at)
		}
	}
}

// things are all heads, caches, words of pages and of maps of l: each name, and the word that its call answers.
func things(t *testing.T, l api.Layout) map[api.Spot]int {
	all := map[api.Spot]int{}
	put := func(spot api.Spot, f found) {
		if _, twice := all[spot]; twice || !f.ok {
			t.Errorf("of %v: %v is there twice, or not at all", l, spot)
		}
		all[spot] = f.at
	}
	for class := range 15 {
		for b := range 4 {
			put(api.Spot{Kind: api.KHead, A: class, B: b}, head(l, class, b >= 2, b%2))
		}
	}
	for thread := range l.Threads {
		for class := range 14 {
			put(api.Spot{Kind: api.KCache, A: thread, B: class}, cache(l, thread, class))
		}
	}
	for kind := api.KState; kind <= api.KIndex; kind++ {
		for p := range l.Pages {
			put(api.Spot{Kind: kind, A: p}, page(l, kind, p))
		}
	}
	for which := range mapWords(l.Pages) {
		put(api.Spot{Kind: api.KUsed, A: which}, mapped(l, api.KUsed, which))
		put(api.Spot{Kind: api.KGone, A: which}, mapped(l, api.KGone, which))
	}
	return all
}

// 8.3, 8.4: each thing's word has that thing's name, two things have two words, and they are all words from WHeads on.
func TestEachThingHasItsWord(t *testing.T) {
	for _, l := range someLayouts() {
		whose := map[int]api.Spot{}
		for spot, at := range things(t, l) {
			wantName(t, l, at, spot)
			if other, twice := whose[at]; twice {
				t.Errorf("of %v: word %d is for %v and %v", l, at, other, spot)
			}
			whose[at] = spot
			if at < api.WHeads || at >= Words(l) {
				t.Errorf("of %v: %v has word %d", l, spot, at)
			}
		}
		if len(whose) != Words(l)-api.WHeads {
			t.Errorf("of %v: %d things, but %d words", l, len(whose), Words(l)-api.WHeads)
		}
	}
}

// byName is the word that a name finds.
func byName(l api.Layout, spot api.Spot) found {
	switch spot.Kind {
	case api.KHead:
		return head(l, spot.A, spot.B >= 2, spot.B%2)
	case api.KCache:
		return cache(l, spot.A, spot.B)
	case api.KUsed, api.KGone:
		return mapped(l, spot.Kind, spot.A)
	}
	return page(l, spot.Kind, spot.A)
}

// 8.3, 8.4: each word has a name; those from WHeads on are found by it.
func TestEachWordHasItsName(t *testing.T) {
	for _, l := range someLayouts() {
		for at := range Words(l) {
			spot, ok := Name(l, at)
			if !ok || spot.Kind < api.KGen || spot.Kind > api.KGone {
				t.Errorf("Name(%v, %d): %v, %t", l, at, spot, ok)
			}
			if at >= api.WHeads {
				want(t, "the word by its name", l, spot, byName(l, spot), found{at, true})
			}
		}
	}
}

// 8.4: but the spare ones, no two words have one name.
func TestNoNameTwice(t *testing.T) {
	for _, l := range someLayouts() {
		seen := map[api.Spot]int{}
		for at := range Words(l) {
			spot, _ := Name(l, at)
			seen[spot]++
		}
		for spot, times := range seen {
			if spare := spot == (api.Spot{Kind: api.KSpare}); times != 1 && !(spare && times == 3) {
				t.Errorf("of %v: %v is the name of %d words", l, spot, times)
			}
		}
		if len(seen) != Words(l)-2 {
			t.Errorf("of %v: %d names of %d words", l, len(seen), Words(l))
		}
	}
}

// 8.2, 8.4: a page's bit lies in the map's word that begins with it, or ahead of it by fewer than 64 pages; each page has one.
func TestEachPageHasABit(t *testing.T) {
	for _, l := range someLayouts() {
		for p := range l.Pages {
			for _, kind := range []int{api.KUsed, api.KGone} {
				f := mapped(l, kind, p/64)
				if !f.ok {
					t.Errorf("of %v: page %d has no bit of kind %d", l, p, kind)
				}
				wantName(t, l, f.at, api.Spot{Kind: kind, A: p / 64})
			}
		}
	}
}

// R1: what is answered hangs on what is handed in alone.
func TestAskedTwice(t *testing.T) {
	one, other := api.Layout{Pages: 65, Threads: 2}, api.Layout{Pages: 4096, Threads: 64}
	for at := -1; at <= Words(one); at++ {
		spot, ok := Name(one, at)
		Name(other, at)
		Words(other)
		if again, same := Name(one, at); again != spot || same != ok {
			t.Errorf("Name(%v, %d): %v, %t, then %v, %t", one, at, spot, ok, again, same)
		}
	}
}

// The chapter's examples.
func TestExamples(t *testing.T) {
	l := api.Layout{Pages: 1, Threads: 1}
	if got := Words(l); got != 90 {
		t.Errorf("Words(%v): %d, want 90", l, got)
	}
	want(t, "Page KState", l, 0, page(l, api.KState, 0), found{82, true})
}
