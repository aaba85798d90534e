package record

import (
	"math"
	"slices"
	"testing"

	"dustpan/api"
	"dustpan/arena"
)

// of is what Read tells of x while nobody has turned its words.
func (x span) of() api.Span {
	return api.Span{Page: x.page, Pages: x.pages, Class: x.class, Gen: x.gen, Phase: api.PHeld, Alloc: x.alloc}
}

// asks fails if what it does is an access of a's store, or turns a word or the free runs.
func asks(t *testing.T, a *arena.Arena, does func()) {
	t.Helper()
	words, count, last, free := a.Store().Words(), a.Store().Count(), a.Store().Last(), a.Runs().List()
	does()
	if a.Store().Count() != count || a.Store().Last() != last {
		t.Error("to read, or to list, is an access")
	}
	if !slices.Equal(a.Store().Words(), words) || !slices.Equal(a.Runs().List(), free) {
		t.Error("to read, or to list, turns something")
	}
}

// read fails unless Read tells just that, each time; it is no access.
func read(t *testing.T, a *arena.Arena, page int, want api.Span, ok bool) {
	t.Helper()
	asks(t, a, func() {
		for range 2 {
			if got, there := Read(a, page); got != want || there != ok {
				t.Errorf("Read(%d): %+v, %v, want %+v, %v", page, got, there, want, ok)
			}
		}
	})
}

// lists fails unless List tells just those, each time, in new memory; it is no access.
func lists(t *testing.T, a *arena.Arena, want ...api.Span) {
	t.Helper()
	asks(t, a, func() {
		for range 2 {
			got := List(a)
			if !slices.Equal(got, want) {
				t.Errorf("List: %+v, want %+v", got, want)
			}
			clear(got[:cap(got)])
		}
	})
}

// set puts w where the word of a kind of a page stands.
func set(a *arena.Arena, kind, page int, w uint64) {
	a.Store().Put(wordAt(a.Layout(), kind, page), w)
}

// 14.1: of each class, and of Large with each number of pages.
func TestBase(t *testing.T) {
	seen := map[uint64]bool{}
	for class := range large {
		if got, want := Base(class, pagesOf[class]), uint64(256*pagesOf[class]+class); got != want {
			t.Errorf("Base(%d, %d): %d, want %d", class, pagesOf[class], got, want)
		}
		seen[Base(class, pagesOf[class])] = true
	}
	for pages := 1; pages <= 4096; pages++ {
		if got, want := Base(large, pages), uint64(256*pages+large); got != want {
			t.Errorf("Base(Large, %d): %d, want %d", pages, got, want)
		}
		seen[Base(large, pages)] = true
	}
	if len(seen) != large+4096 {
		t.Errorf("%d bases of %d spans", len(seen), large+4096)
	}
}

// 14.1, R1, R7: Base of whatever ends, and goes round at 2^64.
func TestBaseOfWhatever(t *testing.T) {
	for _, x := range []struct {
		class, pages int
		want         uint64
	}{
		{0, 0, 0}, {14, 0, 14}, {255, 0, 255}, {256, 1, 512}, {0, 4097, 4097 * 256}, {-1, 1, 255}, {-1, 0, math.MaxUint64}, {0, -1, math.MaxUint64 - 255},
		{3, 1 << 56, 3}, {3, 1 << 55, 1<<63 + 3}, {math.MaxInt, 0, math.MaxInt}, {0, math.MaxInt, math.MaxUint64 - 255}, {math.MinInt, math.MinInt, 1 << 63}, {1, math.MinInt, 1},
	} {
		if got := Base(x.class, x.pages); got != x.want {
			t.Errorf("Base(%d, %d): %d, want %d", x.class, x.pages, got, x.want)
		}
	}
}

// 14.3: of a page of a span that is laid: with the first one it begins, with the others none does; of one that is gone with none.
func TestReadLaid(t *testing.T) {
	for class := range large + 1 {
		for _, pages := range []int{pagesOf[class], pagesOf[class] + 1, 4} {
			x := span{2, class, pages, 1 + class, ones(slotsOf[class])}
			a := made(t, 8, 2)
			m := newLay(a.Layout(), x)
			if m == nil {
				continue
			}
			run(t, a, m)
			for page := range 8 {
				if page == x.page {
					read(t, a, page, x.of(), true)
				} else {
					read(t, a, page, api.Span{}, false)
				}
			}
			lists(t, a, x.of())
			run(t, a, mustGone(t, a, x.page, x.pages))
			for page := range 8 {
				read(t, a, page, api.Span{}, false)
			}
			lists(t, a)
		}
	}
}

// 14.3: the first page, the last one, and all pages of a layout.
func TestReadAtEdges(t *testing.T) {
	for _, l := range someLayouts() {
		a := made(t, l.Pages, l.Threads)
		last := span{l.Pages - 1, 0, 1, 1 << 31, math.MaxUint64}
		run(t, a, mustLay(t, a, last))
		read(t, a, l.Pages-1, last.of(), true)
		run(t, a, mustGone(t, a, l.Pages-1, 1))
		whole := span{0, large, l.Pages, 1, 1}
		run(t, a, mustLay(t, a, whole))
		read(t, a, 0, whole.of(), true)
		lists(t, a, whole.of())
		for _, page := range append(far(), l.Pages, l.Pages+1, 2*l.Pages, 4096, 1<<16) {
			read(t, a, page, api.Span{}, false)
		}
	}
}

// 14.3: of a page that is not there, whatever all words hold.
func TestReadOfNoPage(t *testing.T) {
	for _, l := range someLayouts() {
		a := filled(t, l.Pages, l.Threads, 11)
		for _, page := range append(far(), l.Pages, l.Pages+1, 4096, 1<<16) {
			read(t, a, page, api.Span{}, false)
		}
	}
}

// 14.3: a span is there from the put of its state on, till that of a gone.
func TestReadBetweenSteps(t *testing.T) {
	a := made(t, 8, 2)
	x := span{2, 7, 3, 4, 5}
	m := mustLay(t, a, x)
	for range 7 {
		read(t, a, 2, api.Span{}, false)
		m.Step(a)
	}
	away := mustGone(t, a, 2, 3)
	for range 4 {
		read(t, a, 2, x.of(), true)
		lists(t, a, x.of())
		away.Step(a)
	}
	read(t, a, 2, api.Span{}, false)
	lists(t, a)
}

// 14.3: marks, phases, cycles, slots: all that the words say, as others have turned them.
func TestReadWords(t *testing.T) {
	a := made(t, 8, 2)
	for _, gen := range []int{1, 2, 99, 1<<31 - 1, 1 << 31} {
		for p := api.PIdle; p <= api.PHanded; p++ {
			for i, page := range []int{0, 3, 7} {
				want := api.Span{Page: page, Pages: 1 + 7*i, Class: 7 * i, Gen: gen, Phase: p, Alloc: 1 << i, Mark: math.MaxUint64 >> i}
				set(a, api.KState, page, uint64(8*gen+p))
				set(a, api.KBase, page, uint64(256*want.Pages+want.Class))
				set(a, api.KAlloc, page, want.Alloc)
				set(a, api.KMark, page, want.Mark)
				read(t, a, page, want, true)
			}
		}
	}
}

// 14.3: what is not 0 is told, even if it is no state: that has no cycle, and no phase.
func TestReadNoState(t *testing.T) {
	a := made(t, 8, 2)
	for _, w := range []uint64{1, 2, 6, 7, 8, 15, 16, 31, 8<<31 + 7, 8<<31 + 8, 8<<31 + 9, 1 << 63, 1<<63 + 9, math.MaxUint64} {
		set(a, api.KState, 3, w)
		set(a, api.KBase, 3, 775)
		set(a, api.KAlloc, 3, 5)
		set(a, api.KMark, 3, 4)
		want := api.Span{Page: 3, Pages: 3, Class: 7, Alloc: 5, Mark: 4}
		read(t, a, 3, want, true)
		lists(t, a, want)
	}
	set(a, api.KState, 3, 0)
	read(t, a, 3, api.Span{}, false)
}

// 14.3: whatever KBase holds, its pages are what lies above the class.
func TestReadBase(t *testing.T) {
	a := made(t, 8, 2)
	set(a, api.KState, 5, 25)
	for _, x := range []struct {
		base         uint64
		pages, class int
	}{
		{0, 0, 0}, {1, 0, 1}, {14, 0, 14}, {255, 0, 255}, {256, 1, 0}, {775, 3, 7}, {1<<20 + 14, 4096, 14}, {1<<20 + 15, 4096, 15}, {1 << 32, 1 << 24, 0},
		{1 << 63, 1 << 55, 0}, {math.MaxUint64, 1<<56 - 1, 255}, {math.MaxUint64 - 255, 1<<56 - 1, 0},
	} {
		set(a, api.KBase, 5, x.base)
		read(t, a, 5, api.Span{Page: 5, Pages: x.pages, Class: x.class, Gen: 3, Phase: api.PIdle}, true)
	}
}

// 14.3: whatever all words hold, each page is told by four of its own; KNext, KIndex and other pages' words are not asked.
func TestReadAsksItsOwnWords(t *testing.T) {
	x := span{3, 7, 3, 4, 5}
	for _, w := range append(strangeWords(), 0) {
		a := filled(t, 8, 2, w)
		set(a, api.KState, 3, 34)
		set(a, api.KBase, 3, 775)
		set(a, api.KAlloc, 3, 5)
		set(a, api.KMark, 3, 0)
		read(t, a, 3, x.of(), true)
		set(a, api.KState, 3, 0)
		read(t, a, 3, api.Span{}, false)
	}
}

// 14.3: List is Read of each page of which it is true, rising, however they were laid.
func TestList(t *testing.T) {
	spans := []span{{9, 1, 1, 3, 4}, {0, 7, 3, 1, 0}, {11, large, 5, 2, 1}, {4, 12, 2, 9, 3}, {3, 0, 1, 1 << 31, math.MaxUint64}, {69, 5, 1, 1, 1}, {63, 9, 3, 7, 200}}
	a := made(t, 70, 3)
	lists(t, a)
	var want []api.Span
	for _, x := range spans {
		run(t, a, mustLay(t, a, x))
		at, _ := slices.BinarySearchFunc(want, x.page, func(s api.Span, page int) int { return s.Page - page })
		want = slices.Insert(want, at, x.of())
		lists(t, a, want...)
	}
	set(a, api.KMark, 11, 1)
	set(a, api.KState, 4, 8*9+5)
	want[2].Phase, want[4].Mark = api.PDone, 1
	lists(t, a, want...)
	for _, x := range spans {
		run(t, a, mustGone(t, a, x.page, x.pages))
		want = slices.DeleteFunc(want, func(s api.Span) bool { return s.Page == x.page })
		lists(t, a, want...)
	}
}

// 14.3: all pages at once, of each layout.
func TestListAll(t *testing.T) {
	for _, l := range someLayouts() {
		a := made(t, l.Pages, l.Threads)
		want := make([]api.Span, l.Pages)
		for page := l.Pages - 1; page >= 0; page-- {
			x := span{page, page % 7, 1, 1 + page, uint64(page % 256)}
			run(t, a, mustLay(t, a, x))
			want[page] = x.of()
		}
		lists(t, a, want...)
	}
}

// 14.3: all words the same, whatever they are: what is told is all pages, or none.
func TestListWhatever(t *testing.T) {
	for _, w := range append(strangeWords(), 0) {
		a := filled(t, 8, 2, w)
		var want []api.Span
		for page := range 8 {
			if x, ok := Read(a, page); ok {
				want = append(want, x)
			}
		}
		if n := len(want); n != 8 && (w != 0 || n != 0) {
			t.Errorf("all words %d: %d spans", w, n)
		}
		lists(t, a, want...)
	}
}

// R6: of no arena, and of one that New did not make.
func TestReadOfNoArena(t *testing.T) {
	var none *arena.Arena
	for _, a := range []*arena.Arena{none, {}} {
		for _, page := range append(far(), 0, 1, 4095) {
			if x, ok := Read(a, page); x != (api.Span{}) || ok {
				t.Errorf("Read(%d) of no arena: %+v, %v", page, x, ok)
			}
		}
		if x := List(a); len(x) != 0 {
			t.Errorf("List of no arena: %+v", x)
		}
	}
}
