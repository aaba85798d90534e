package arena

import (
	"math"
	"slices"
	"testing"

	"dustpan/api"
	"dustpan/layout"
	"dustpan/runs"
	"dustpan/store"
)

// made is a new arena of pages and threads, which must be there.
func made(t *testing.T, pages, threads int, draws ...uint32) *Arena {
	t.Helper()
	a := New(api.Setup{Pages: pages, Threads: threads, Draws: draws})
	if a == nil {
		t.Fatalf("New of %d pages, %d threads: nil", pages, threads)
	}
	return a
}

// count is how many words the chapter of the layout says that there are, reckoned by going through the pages.
func count(pages, threads int) int {
	n := 68 + 14*threads
	for page := range pages {
		n += 6
		if page%64 == 0 {
			n += 2
		}
	}
	return n
}

// fresh fails unless a is as New must make it, of pages and threads; what the runs drew is not asked.
func fresh(t *testing.T, a *Arena, pages, threads int) {
	t.Helper()
	if got := a.Layout(); got != (api.Layout{Pages: pages, Threads: threads}) {
		t.Errorf("of %d pages, %d threads: Layout %v", pages, threads, got)
	}
	want := make([]uint64, count(pages, threads))
	want[api.WGen] = 1
	if got := a.Store().Words(); !slices.Equal(got, want) {
		t.Errorf("of %d pages, %d threads: %d words, want %d, all 0 but WGen", pages, threads, len(got), len(want))
	}
	untouched(t, a)
	if got := a.Gen(); got != 1 {
		t.Errorf("of %d pages, %d threads: Gen %d", pages, threads, got)
	}
	untouched(t, a)
	free(t, a, api.Run{At: 0, N: pages})
	if got := a.Runs().Drawn(); got != 1 {
		t.Errorf("of %d pages, %d threads: Drawn %d", pages, threads, got)
	}
	if got := a.Runs().Shape(); !slices.Equal(got, []api.Node{{Key: 8192 * pages, Depth: 0}}) {
		t.Errorf("of %d pages, %d threads: Shape %v", pages, threads, got)
	}
}

// untouched fails if an access of a's store was done.
func untouched(t *testing.T, a *Arena) {
	t.Helper()
	accessed(t, a, api.Did{}, 0)
}

// accessed fails unless last is what the last access of a's store did, and there were n.
func accessed(t *testing.T, a *Arena, last api.Did, n int) {
	t.Helper()
	if a.Store().Last() != last || a.Store().Count() != n {
		t.Errorf("Last %v, Count %d, want %v, %d", a.Store().Last(), a.Store().Count(), last, n)
	}
}

// free fails unless just those runs are free.
func free(t *testing.T, a *Arena, want ...api.Run) {
	t.Helper()
	if got := a.Runs().List(); !slices.Equal(got, want) {
		t.Errorf("free runs %v, want %v", got, want)
	}
}

// somePages are the first, the last, and those around what a map's word is for.
func somePages() []int { return []int{1, 2, 3, 63, 64, 65, 70, 128, 129, 4033, 4095, 4096} }

func someThreads() []int { return []int{1, 2, 3, 63, 64} }

// far are numbers below 0, and far above all that may be; some have the lowest bits of one that may be.
func far() []int {
	return []int{
		-1, -2, -64, -4096, math.MinInt32, -1 << 32, -1<<32 + 1, -1 << 62, math.MinInt + 1, math.MinInt,
		4097, 1 << 16, 1<<31 + 1, 1 << 32, 1<<32 + 1, 1 << 60, 1<<62 + 1, math.MaxInt - 1, math.MaxInt,
	}
}

// 11.1: a new arena, of the fewest and of the most, and of those between.
func TestNew(t *testing.T) {
	for _, pages := range somePages() {
		for _, threads := range someThreads() {
			fresh(t, made(t, pages, threads), pages, threads)
		}
	}
}

// 11.1: the store is just as long as the layout says.
func TestWordsOfLayout(t *testing.T) {
	for _, pages := range somePages() {
		for _, threads := range someThreads() {
			a := made(t, pages, threads)
			if got, want := a.Store().Len(), layout.Words(a.Layout()); got != want {
				t.Errorf("of %d pages, %d threads: %d words, want %d", pages, threads, got, want)
			}
		}
	}
}

// 11.1: nil just where the layout may not be, whatever of it is wrong, and whatever the draws are.
func TestNewRefused(t *testing.T) {
	badPages, badThreads := append(far(), 0), append(far(), 0, 65, 4096)
	for _, draws := range [][]uint32{nil, {}, {1, 2, 3}} {
		refused := func(pages, threads int) {
			t.Helper()
			if New(api.Setup{Pages: pages, Threads: threads, Draws: draws}) != nil {
				t.Errorf("New of %d pages, %d threads: not nil", pages, threads)
			}
		}
		for _, pages := range badPages {
			for _, threads := range append(badThreads, someThreads()...) {
				refused(pages, threads)
			}
		}
		for _, pages := range somePages() {
			for _, threads := range badThreads {
				refused(pages, threads)
			}
		}
	}
}

// 11.1: of every number of pages, and of every number of threads, with one more on each side.
func TestNewJustWhereItMayBe(t *testing.T) {
	for pages := -1; pages <= api.MaxPages+1; pages++ {
		for _, threads := range []int{0, 1, api.MaxThreads, api.MaxThreads + 1} {
			want := pages >= 1 && pages <= api.MaxPages && threads >= 1 && threads <= api.MaxThreads
			if got := New(api.Setup{Pages: pages, Threads: threads}) != nil; got != want {
				t.Errorf("New of %d pages, %d threads: %v, want %v", pages, threads, got, want)
			}
		}
	}
	for threads := -1; threads <= api.MaxThreads+1; threads++ {
		want := threads >= 1 && threads <= api.MaxThreads
		if got := New(api.Setup{Pages: 1, Threads: threads}) != nil; got != want {
			t.Errorf("New of 1 page, %d threads: %v, want %v", threads, got, want)
		}
	}
}

// 11.1: pages and threads are not taken for one another.
func TestLayout(t *testing.T) {
	for _, l := range []api.Layout{{Pages: 1, Threads: 64}, {Pages: 64, Threads: 1}, {Pages: 3, Threads: 5}, {Pages: 5, Threads: 3}, {Pages: 4096, Threads: 2}} {
		a := made(t, l.Pages, l.Threads, 7)
		if got := a.Layout(); got != l {
			t.Errorf("Layout %v, want %v", got, l)
		}
		if got := a.Runs().Total(); got != l.Pages {
			t.Errorf("of %v: %d pages are free", l, got)
		}
	}
}

// 11.1: the free runs draw what the setup says, the first one too, as runs of those pages and draws do.
func TestDraws(t *testing.T) {
	for _, draws := range [][]uint32{nil, {}, {0}, {9}, {1, 2, 3, 4, 5}, {5, 4, 3, 2, 1}, {3, 3, 3}, {0, 1, math.MaxUint32, 7, 2, 9}} {
		a, r := made(t, 12, 2, draws...), runs.New(12, draws)
		for at := range 12 {
			a.Runs().Take(1)
			r.Take(1)
			alike(t, a.Runs(), r)
			if at >= 4 && at%2 == 0 {
				a.Runs().Put(at-4, 1)
				r.Put(at-4, 1)
				alike(t, a.Runs(), r)
			}
		}
		a.Runs().Put(11, 1)
		r.Put(11, 1)
		alike(t, a.Runs(), r)
	}
}

// alike fails unless both runs tell the same.
func alike(t *testing.T, got, want *runs.Runs) {
	t.Helper()
	if !slices.Equal(got.List(), want.List()) || got.Total() != want.Total() {
		t.Errorf("List %v, want %v", got.List(), want.List())
	}
	if got.Drawn() != want.Drawn() || !slices.Equal(got.Shape(), want.Shape()) {
		t.Errorf("Drawn %d, Shape %v, want %d, %v", got.Drawn(), got.Shape(), want.Drawn(), want.Shape())
	}
}

// split leaves pages 0 and 2 to 4 of five free, as two runs: the second and the third draw are theirs.
func split(t *testing.T, a *Arena) {
	t.Helper()
	a.Runs().Take(5)
	if e := a.Runs().Put(0, 1); e != api.OK {
		t.Fatalf("Put(0, 1): %d", e)
	}
	if e := a.Runs().Put(2, 3); e != api.OK {
		t.Fatalf("Put(2, 3): %d", e)
	}
}

// 11.1: the first draw is that of the first run, so that the next runs have the next ones.
func TestDrawsInOrder(t *testing.T) {
	short, long := 8192, 3*8192+2
	for _, c := range []struct {
		draws []uint32
		top   int
	}{
		{nil, short}, {[]uint32{9}, short}, {[]uint32{0, 1}, short}, {[]uint32{0, 1, 2}, long},
		{[]uint32{9, 1, 2}, long}, {[]uint32{0, 2, 1}, short}, {[]uint32{0, 2, 1, 9}, short}, {[]uint32{1, 1, math.MaxUint32}, long},
	} {
		a := made(t, 5, 1, c.draws...)
		split(t, a)
		if got := a.Runs().Shape(); len(got) != 2 || got[0] != (api.Node{Key: c.top, Depth: 0}) {
			t.Errorf("of draws %v: Shape %v, want %d at the root", c.draws, got, c.top)
		}
		if got := a.Runs().Drawn(); got != 3 {
			t.Errorf("of draws %v: Drawn %d", c.draws, got)
		}
	}
}

// 11.1, R4: the setup's draws are neither changed nor kept, their spare room too.
func TestDrawsAreNotKept(t *testing.T) {
	draws := []uint32{0, 1, 2, 9, 9, 9}
	a := New(api.Setup{Pages: 5, Threads: 1, Draws: draws[:3]})
	b := New(api.Setup{Pages: 5, Threads: 1, Draws: draws[:3]})
	split(t, b)
	if !slices.Equal(draws, []uint32{0, 1, 2, 9, 9, 9}) {
		t.Errorf("the draws were turned: %v", draws)
	}
	for i := range draws {
		draws[i] = uint32(100 - i)
	}
	split(t, a)
	alike(t, a.Runs(), b.Runs())
	if got := a.Runs().Shape(); got[0].Key != 3*8192+2 {
		t.Errorf("Shape %v", got)
	}
	for i := range draws {
		if draws[i] != uint32(100-i) {
			t.Errorf("the draws were turned: %v", draws)
		}
	}
}

// 11.1: the store is itself: who turns it turns the arena, and each time it is the same one.
func TestStoreItself(t *testing.T) {
	a := made(t, 3, 2)
	s := a.Store()
	if s != a.Store() {
		t.Error("Store: two of them")
	}
	last := s.Len() - 1
	s.Put(last, 5)
	if v, e := a.Store().Load(last); v != 5 || e != api.OK {
		t.Errorf("Load(%d): %d, %d", last, v, e)
	}
	accessed(t, a, api.Did{Kind: api.DLoad, At: last, Old: 5, New: 5}, 2)
	a.Store().Add(api.WBusy, 2)
	if got := s.Words(); got[api.WBusy] != 2 || got[last] != 5 || got[api.WGen] != 1 {
		t.Errorf("words %v", got)
	}
	if s.Count() != 3 {
		t.Errorf("Count %d", s.Count())
	}
	if _, e := s.Load(last + 1); e != api.ErrArg {
		t.Errorf("Load(%d): %d", last+1, e)
	}
}

// 11.1: the first accesses of WGen find 1 there.
func TestFirstAccessOfGen(t *testing.T) {
	a := made(t, 2, 1)
	if v, e := a.Store().Load(api.WGen); v != 1 || e != api.OK {
		t.Errorf("Load: %d, %d", v, e)
	}
	accessed(t, a, api.Did{Kind: api.DLoad, At: api.WGen, Old: 1, New: 1}, 1)
	b := made(t, 2, 1)
	if v, e := b.Store().Cas(api.WGen, 0, 5); v != 1 || e != api.ErrLost {
		t.Errorf("Cas from 0: %d, %d", v, e)
	}
	if v, e := b.Store().Cas(api.WGen, 1, 2); v != 1 || e != api.OK || b.Gen() != 2 {
		t.Errorf("Cas from 1: %d, %d, Gen %d", v, e, b.Gen())
	}
	accessed(t, b, api.Did{Kind: api.DCas, At: api.WGen, Old: 1, New: 2}, 2)
}

// 11.1: the free runs are themselves: who turns them turns the arena, and each time they are the same ones.
func TestRunsItself(t *testing.T) {
	a := made(t, 10, 2)
	r := a.Runs()
	if r != a.Runs() {
		t.Error("Runs: two of them")
	}
	if at, e := r.Take(3); at != 0 || e != api.OK {
		t.Errorf("Take(3): %d, %d", at, e)
	}
	free(t, a, api.Run{At: 3, N: 7})
	if at, e := a.Runs().Take(7); at != 3 || e != api.OK || r.Total() != 0 {
		t.Errorf("Take(7): %d, %d, then %d pages", at, e, r.Total())
	}
	if _, e := a.Runs().Take(1); e != api.ErrFull {
		t.Errorf("Take(1): %d", e)
	}
	if e := a.Runs().Put(4, 2); e != api.OK {
		t.Errorf("Put(4, 2): %d", e)
	}
	free(t, a, api.Run{At: 4, N: 2})
	if e := a.Runs().Put(10, 1); e != api.ErrArg {
		t.Errorf("Put(10, 1): %d", e)
	}
	untouched(t, a)
	if a.Runs().Drawn() != 3 || a.Gen() != 1 {
		t.Errorf("Drawn %d, Gen %d", a.Runs().Drawn(), a.Gen())
	}
}

// 11.1: Gen is what WGen says, however it came there, and whatever stands elsewhere.
func TestGen(t *testing.T) {
	a := made(t, 3, 2)
	for _, v := range []uint64{2, 3, 77, 1<<31 - 1, api.MaxGen, api.MaxGen + 1, 1 << 40, math.MaxInt64, 0, 1} {
		a.Store().Put(api.WGen, v)
		if got := a.Gen(); got != int(v) {
			t.Errorf("Gen %d, want %d", got, v)
		}
	}
	a.Store().Add(api.WGen, 4)
	if got := a.Gen(); got != 5 {
		t.Errorf("behind Add: Gen %d", got)
	}
	a.Store().Cas(api.WGen, 4, 9)
	if got := a.Gen(); got != 5 {
		t.Errorf("behind a lost Cas: Gen %d", got)
	}
	for at := range a.Store().Len() {
		if at != api.WGen {
			a.Store().Put(at, 1000+uint64(at))
		}
	}
	a.Runs().Take(2)
	if got := a.Gen(); got != 5 {
		t.Errorf("when all else was turned: Gen %d", got)
	}
}

// 11.1, R7: a word that is no int is told as the int of the same bits.
func TestGenBeyondInt(t *testing.T) {
	a := made(t, 1, 1)
	for v, want := range map[uint64]int{math.MaxUint64: -1, 1 << 63: math.MinInt, 1<<63 + 5: math.MinInt + 5} {
		a.Store().Put(api.WGen, v)
		if got := a.Gen(); got != want {
			t.Errorf("WGen %d: Gen %d, want %d", v, got, want)
		}
	}
}

// 11.1: Gen is no access, and turns no word; no more are Layout, Store and Runs.
func TestAskingIsNoAccess(t *testing.T) {
	ask := func(a *Arena) {
		for range 3 {
			a.Gen()
			a.Layout()
			a.Store()
			a.Runs()
		}
	}
	a := made(t, 4, 2)
	ask(a)
	fresh(t, a, 4, 2)
	a.Store().Put(api.WLock, 6)
	a.Store().Cas(api.WLock, 5, 7)
	want := a.Store().Words()
	ask(a)
	accessed(t, a, api.Did{Kind: api.DLost, At: api.WLock, Old: 6, New: 6}, 2)
	if got := a.Store().Words(); !slices.Equal(got, want) {
		t.Errorf("words %v, want %v", got, want)
	}
	if a.Runs().Drawn() != 1 {
		t.Errorf("Drawn %d", a.Runs().Drawn())
	}
}

// 11.2: of two arenas of one setup, all that is done to the one leaves the other as it was.
func TestTwoArenas(t *testing.T) {
	setup := api.Setup{Pages: 70, Threads: 3, Draws: []uint32{4, 5, 6}}
	a, b := New(setup), New(setup)
	if a.Store() == b.Store() || a.Runs() == b.Runs() {
		t.Fatal("two arenas, one store or one runs")
	}
	for at := range a.Store().Len() {
		a.Store().Put(at, 7)
	}
	for range 20 {
		a.Runs().Take(3)
	}
	a.Runs().Put(0, 3)
	fresh(t, b, 70, 3)
	words, list, last := a.Store().Words(), a.Runs().List(), a.Store().Last()
	b.Store().Put(api.WGen, 2)
	b.Runs().Take(70)
	c := New(setup)
	fresh(t, c, 70, 3)
	c.Store().Put(api.WGen, 3)
	if a.Gen() != 7 || b.Gen() != 2 || c.Gen() != 3 {
		t.Errorf("Gen %d, %d, %d", a.Gen(), b.Gen(), c.Gen())
	}
	if !slices.Equal(a.Store().Words(), words) {
		t.Error("another one's accesses turned the words")
	}
	accessed(t, a, last, len(words))
	free(t, a, list...)
}

// 11.2: two arenas draw by themselves.
func TestTwoDraw(t *testing.T) {
	setup := api.Setup{Pages: 5, Threads: 1, Draws: []uint32{0, 1, 2, 0, 5, 4}}
	a, b := New(setup), New(setup)
	split(t, a)
	shape := a.Runs().Shape()
	split(t, b)
	alike(t, b.Runs(), a.Runs())
	if !slices.Equal(a.Runs().Shape(), shape) {
		t.Errorf("Shape %v, was %v", a.Runs().Shape(), shape)
	}
}

// R1: a setup that is handed in again makes the same again.
func TestSameAgain(t *testing.T) {
	for range 3 {
		fresh(t, made(t, 65, 4, 1, 2, 3), 65, 4)
	}
}

// R6
func TestNil(t *testing.T) {
	var a *Arena
	nothing(t, a)
}

// R1: an arena that New did not make has nothing.
func TestZeroArena(t *testing.T) {
	nothing(t, &Arena{})
}

// R1: Gen ends, too, when somebody has laid a store without words over the arena's own.
func TestGenWithoutWords(t *testing.T) {
	a := made(t, 1, 1)
	*a.Store() = store.Store{}
	if got := a.Gen(); got != 0 {
		t.Errorf("Gen %d", got)
	}
}

// nothing fails unless all that a answers is zero, and nil; what is nil may be asked further.
func nothing(t *testing.T, a *Arena) {
	t.Helper()
	if a.Layout() != (api.Layout{}) || a.Gen() != 0 {
		t.Errorf("Layout %v, Gen %d", a.Layout(), a.Gen())
	}
	if a.Store() != nil || a.Runs() != nil {
		t.Errorf("Store %v, Runs %v", a.Store(), a.Runs())
	}
	if a.Store().Len() != 0 || a.Runs().Total() != 0 {
		t.Errorf("%d words, %d pages", a.Store().Len(), a.Runs().Total())
	}
}

// 11.1: the chapter's examples.
func TestExamples(t *testing.T) {
	a := made(t, 1, 1)
	if got := a.Store().Len(); got != 90 {
		t.Errorf("%d words", got)
	}
	if got := a.Gen(); got != 1 {
		t.Errorf("Gen %d", got)
	}
	free(t, a, api.Run{At: 0, N: 1})
}
