package stack

import (
	"math"
	"slices"
	"testing"

	"dustpan/api"
	"dustpan/arena"
	"dustpan/store"
)

// machine is a pop, or a push.
type machine interface {
	Step(a *arena.Arena) api.Did
	Done() bool
}

// lastTag is the tag that 0 follows.
const lastTag = 1<<32 - 1

// made is a new arena of pages and threads, which must be there.
func made(t *testing.T, pages, threads int) *arena.Arena {
	t.Helper()
	a := arena.New(api.Setup{Pages: pages, Threads: threads})
	if a == nil {
		t.Fatalf("no arena of %d pages, %d threads", pages, threads)
	}
	return a
}

// mustPop is a new pop, which must be there.
func mustPop(t *testing.T, a *arena.Arena, at int) *Pop {
	t.Helper()
	m := NewPop(a.Layout(), at)
	if m == nil {
		t.Fatalf("NewPop(%v, %d): nil", a.Layout(), at)
	}
	return m
}

// mustPush is a new push, which must be there.
func mustPush(t *testing.T, a *arena.Arena, at, page int) *Push {
	t.Helper()
	m := NewPush(a.Layout(), at, page)
	if m == nil {
		t.Fatalf("NewPush(%v, %d, %d): nil", a.Layout(), at, page)
	}
	return m
}

// headAt is where a head stands, as the chapter of the layout says.
func headAt(class, full, parity int) int { return 8 + 4*class + 2*full + parity }

// nextAt is where the KNext of a page stands, as the chapter of the layout says.
func nextAt(a *arena.Arena, page int) int { return 68 + 14*a.Layout().Threads + 5*page + 2 }

// word is a head of tag and page, as the chapter of tags says; page -1: none.
func word(tag uint64, page int) uint64 { return tag<<32 + uint64(page+1) }

func load(at int, v uint64) api.Did {
	return api.Did{Kind: api.DLoad, At: at, Old: v, New: v}
}

func put(at int, old, v uint64) api.Did {
	return api.Did{Kind: api.DPut, At: at, Old: old, New: v}
}

func cas(at int, old, v uint64) api.Did {
	return api.Did{Kind: api.DCas, At: at, Old: old, New: v}
}

func lost(at int, v uint64) api.Did {
	return api.Did{Kind: api.DLost, At: at, Old: v, New: v}
}

// steps fails unless the next steps of m are just those: one access each, told as the store's Last, and no other word turned.
func steps(t *testing.T, a *arena.Arena, m machine, want ...api.Did) {
	t.Helper()
	for i, d := range want {
		if m.Done() {
			t.Fatalf("step %d: it is done, want %v", i, d)
		}
		words, count, free := a.Store().Words(), a.Store().Count(), a.Runs().List()
		if got := m.Step(a); got != d {
			t.Fatalf("step %d: %v, want %v", i, got, d)
		}
		if got := a.Store().Last(); got != d || a.Store().Count() != count+1 {
			t.Errorf("step %d: Last %v, want %v; %d accesses", i, got, d, a.Store().Count()-count)
		}
		words[d.At] = d.New
		if !slices.Equal(a.Store().Words(), words) || !slices.Equal(a.Runs().List(), free) {
			t.Errorf("step %d, %v: another word, or the free runs, were turned", i, d)
		}
	}
}

// page fails unless want is what a pop tells as its Page; a push has none.
func page(t *testing.T, m machine, want int) {
	t.Helper()
	if pop, ok := m.(*Pop); ok && pop.Page() != want {
		t.Errorf("Page %d, want %d", pop.Page(), want)
	}
}

// all fails unless the steps that m has left are just those, and then it is done, and does nothing any more.
func all(t *testing.T, a *arena.Arena, m machine, took int, want ...api.Did) {
	t.Helper()
	for _, d := range want {
		page(t, m, -1)
		steps(t, a, m, d)
	}
	if !m.Done() {
		t.Fatal("it is not done")
	}
	page(t, m, took)
	for range 3 {
		idle(t, a, m, a)
	}
	page(t, m, took)
}

// idle fails unless a step of m in b is none, and turns nothing there, nor in a.
func idle(t *testing.T, a *arena.Arena, m machine, b *arena.Arena) {
	t.Helper()
	done := m.Done()
	both := []*arena.Arena{a, b}
	var words [2][]uint64
	var count [2]int
	var last [2]api.Did
	for i, c := range both {
		words[i], count[i], last[i] = c.Store().Words(), c.Store().Count(), c.Store().Last()
	}
	if d := m.Step(b); d != (api.Did{}) {
		t.Errorf("a step that is none: %v", d)
	}
	for i, c := range both {
		if !slices.Equal(c.Store().Words(), words[i]) || c.Store().Count() != count[i] || c.Store().Last() != last[i] {
			t.Error("a step that is none turned a word, or is an access")
		}
	}
	if m.Done() != done {
		t.Errorf("a step that is none: Done %v, was %v", m.Done(), done)
	}
}

// run does all steps that m has left.
func run(t *testing.T, a *arena.Arena, m machine) {
	t.Helper()
	for range 100 {
		if m.Done() {
			return
		}
		m.Step(a)
	}
	t.Fatal("it does not end")
}

// lay pushes pages, the first one deepest.
func lay(t *testing.T, a *arena.Arena, at int, pages ...int) {
	t.Helper()
	for _, p := range pages {
		run(t, a, mustPush(t, a, at, p))
	}
}

// lies fails unless just those pages lie there, from the top on; being asked is no access.
func lies(t *testing.T, a *arena.Arena, at int, want ...int) {
	t.Helper()
	words, count, last := a.Store().Words(), a.Store().Count(), a.Store().Last()
	if got := List(a, at); !slices.Equal(got, want) {
		t.Errorf("List(%d): %v, want %v", at, got, want)
	}
	if a.Store().Count() != count || a.Store().Last() != last || !slices.Equal(a.Store().Words(), words) {
		t.Errorf("List(%d) is an access, or turned a word", at)
	}
}

// far are numbers that are no place of a word, and no page; some have the lowest bits of one that is.
func far() []int {
	return []int{
		-1, -2, -8, -64, -4096, math.MinInt32, -1<<32 + 8, -1 << 62, math.MinInt + 8, math.MinInt + 1, math.MinInt,
		1 << 16, 1 << 31, 1<<32 + 8, 1<<62 + 8, math.MaxInt - 1, math.MaxInt,
	}
}

// noLayouts may not be.
func noLayouts() []api.Layout {
	return []api.Layout{
		{}, {Pages: 8}, {Threads: 2}, {Pages: -1, Threads: 2}, {Pages: 8, Threads: -1}, {Pages: 4097, Threads: 2}, {Pages: 8, Threads: 65},
		{Pages: 1<<32 + 8, Threads: 2}, {Pages: 8, Threads: 1<<32 + 2}, {Pages: math.MaxInt, Threads: math.MaxInt}, {Pages: math.MinInt, Threads: math.MinInt},
	}
}

func someLayouts() []api.Layout {
	return []api.Layout{{Pages: 1, Threads: 1}, {Pages: 8, Threads: 2}, {Pages: 2, Threads: 64}, {Pages: 70, Threads: 3}, {Pages: 4096, Threads: 64}}
}

// 12.1, 12.2: of what heads there are pops and pushes: those from the first to the last, and no others.
func TestNewOfHeads(t *testing.T) {
	for _, l := range someLayouts() {
		for at := -100; at < 1000; at++ {
			want := at >= 8 && at <= 67
			if got := NewPop(l, at) != nil; got != want {
				t.Errorf("NewPop(%v, %d): %v", l, at, got)
			}
			if got := NewPush(l, at, l.Pages-1) != nil; got != want {
				t.Errorf("NewPush(%v, %d): %v", l, at, got)
			}
		}
		for _, at := range far() {
			if NewPop(l, at) != nil || NewPush(l, at, 0) != nil {
				t.Errorf("of %v there is a head %d", l, at)
			}
		}
	}
}

// 12.2: of what pages there are pushes.
func TestNewOfPages(t *testing.T) {
	for _, l := range someLayouts() {
		for _, at := range []int{8, 9, 40, 66, 67} {
			for _, p := range []int{0, l.Pages / 2, l.Pages - 1} {
				if NewPush(l, at, p) == nil {
					t.Errorf("NewPush(%v, %d, %d): nil", l, at, p)
				}
			}
			for _, p := range append(far(), l.Pages, l.Pages+1, 4096, 4097) {
				if NewPush(l, at, p) != nil {
					t.Errorf("NewPush(%v, %d, %d): not nil", l, at, p)
				}
			}
		}
	}
}

// 12.1, 12.2: of layouts that may not be there is none.
func TestNewOfLayouts(t *testing.T) {
	for _, l := range noLayouts() {
		for at := -1; at < 100; at++ {
			if NewPop(l, at) != nil || NewPush(l, at, 0) != nil {
				t.Errorf("of %v there is a head %d", l, at)
			}
		}
	}
}

// 12.1, 12.2: one that has not begun is not done, has no page, and has turned nothing.
func TestNewHasNotBegun(t *testing.T) {
	a := made(t, 8, 2)
	lay(t, a, 8, 3)
	count := a.Store().Count()
	pop, push := mustPop(t, a, 8), mustPush(t, a, 8, 1)
	if pop.Done() || push.Done() || pop.Page() != -1 {
		t.Errorf("Done %v, %v, Page %d", pop.Done(), push.Done(), pop.Page())
	}
	if a.Store().Count() != count {
		t.Error("to be made, and to be asked, is an access")
	}
	lies(t, a, 8, 3)
}

// 12.1: an empty stack: one load, whatever the tag.
func TestPopOfNone(t *testing.T) {
	for _, tag := range []uint64{0, 1, 7, 1 << 31, lastTag} {
		a := made(t, 8, 2)
		at := headAt(3, 0, 1)
		a.Store().Put(at, word(tag, -1))
		all(t, a, mustPop(t, a, at), -1, load(at, word(tag, -1)))
		all(t, a, mustPop(t, a, at), -1, load(at, word(tag, -1)))
	}
}

// 12.1: of a single page: it is taken, and none is left.
func TestPopOfOne(t *testing.T) {
	a := made(t, 8, 2)
	at, next := headAt(3, 0, 1), nextAt(a, 5)
	a.Store().Put(at, word(9, 5))
	all(t, a, mustPop(t, a, at), 5, load(at, word(9, 5)), load(next, 0), cas(at, word(9, 5), word(10, -1)))
	lies(t, a, at)
	all(t, a, mustPop(t, a, at), -1, load(at, word(10, -1)))
}

// 12.1: of several: the top one is taken; the one that its KNext names lies on top then.
func TestPopOfSeveral(t *testing.T) {
	a := made(t, 8, 2)
	at := headAt(14, 1, 1)
	a.Store().Put(at, word(0, 7))
	a.Store().Put(nextAt(a, 7), 1)
	a.Store().Put(nextAt(a, 0), 5)
	lies(t, a, at, 7, 0, 4)
	all(t, a, mustPop(t, a, at), 7, load(at, word(0, 7)), load(nextAt(a, 7), 1), cas(at, word(0, 7), word(1, 0)))
	lies(t, a, at, 0, 4)
	all(t, a, mustPop(t, a, at), 0, load(at, word(1, 0)), load(nextAt(a, 0), 5), cas(at, word(1, 0), word(2, 4)))
	lies(t, a, at, 4)
	all(t, a, mustPop(t, a, at), 4, load(at, word(2, 4)), load(nextAt(a, 4), 0), cas(at, word(2, 4), word(3, -1)))
	lies(t, a, at)
	all(t, a, mustPop(t, a, at), -1, load(at, word(3, -1)))
}

// 12.1, 12.2: the tag goes round, and nothing of it spills into the page.
func TestLastTag(t *testing.T) {
	a := made(t, 8, 2)
	at := headAt(0, 0, 0)
	a.Store().Put(at, word(lastTag, 2))
	all(t, a, mustPush(t, a, at, 6), 0, load(at, word(lastTag, 2)), put(nextAt(a, 6), 0, 3), cas(at, word(lastTag, 2), word(0, 6)))
	a.Store().Put(at, word(lastTag, 6))
	all(t, a, mustPop(t, a, at), 6, load(at, word(lastTag, 6)), load(nextAt(a, 6), 3), cas(at, word(lastTag, 6), word(0, 2)))
	lies(t, a, at, 2)
}

// 12.2: pushes, one above the other; what stood in KNext ahead is gone.
func TestPush(t *testing.T) {
	a := made(t, 8, 2)
	at := headAt(3, 1, 0)
	a.Store().Put(nextAt(a, 5), 77)
	all(t, a, mustPush(t, a, at, 5), 0, load(at, 0), put(nextAt(a, 5), 77, 0), cas(at, 0, word(1, 5)))
	lies(t, a, at, 5)
	all(t, a, mustPush(t, a, at, 0), 0, load(at, word(1, 5)), put(nextAt(a, 0), 0, 6), cas(at, word(1, 5), word(2, 0)))
	lies(t, a, at, 0, 5)
	a.Store().Put(nextAt(a, 7), math.MaxUint64)
	all(t, a, mustPush(t, a, at, 7), 0, load(at, word(2, 0)), put(nextAt(a, 7), math.MaxUint64, 1), cas(at, word(2, 0), word(3, 7)))
	lies(t, a, at, 7, 0, 5)
}

// 12.1, 12.2: the first head and the last one, and all between, in the smallest layout and in greater ones; what lies in one lies in no other.
func TestEachHead(t *testing.T) {
	for _, l := range []api.Layout{{Pages: 1, Threads: 1}, {Pages: 8, Threads: 2}, {Pages: 70, Threads: 64}} {
		for at := 8; at <= 67; at++ {
			a := made(t, l.Pages, l.Threads)
			p := l.Pages - 1
			all(t, a, mustPush(t, a, at, p), 0, load(at, 0), put(nextAt(a, p), 0, 0), cas(at, 0, word(1, p)))
			for other := 8; other <= 67; other++ {
				if other != at {
					lies(t, a, other)
				}
			}
			lies(t, a, at, p)
			all(t, a, mustPop(t, a, at), p, load(at, word(1, p)), load(nextAt(a, p), 0), cas(at, word(1, p), word(2, -1)))
		}
	}
}

// 12.1, 12.2, 12.3: every page of the greatest layout, there and back.
func TestEachPage(t *testing.T) {
	a := made(t, 4096, 64)
	at := headAt(14, 1, 1)
	var want []int
	for p := range 4096 {
		lay(t, a, at, p)
		want = append(want, 4095-p)
	}
	if got := List(a, at); !slices.Equal(got, want) {
		t.Fatalf("List: %d pages, want %d, from 4095 to 0", len(got), len(want))
	}
	for _, p := range want {
		m := mustPop(t, a, at)
		run(t, a, m)
		page(t, m, p)
	}
	lies(t, a, at)
	if got := a.Store().Words()[at]; got != word(8192, -1) {
		t.Errorf("the head behind all: %d", got)
	}
}

// 12.1: a swap that is lost to a push: all is done anew, with what lies there now.
func TestPopLostToAPush(t *testing.T) {
	a := made(t, 8, 2)
	at := headAt(2, 0, 0)
	lay(t, a, at, 1, 2)
	m := mustPop(t, a, at)
	steps(t, a, m, load(at, word(2, 2)), load(nextAt(a, 2), 2))
	lay(t, a, at, 5)
	all(t, a, m, 5, lost(at, word(3, 5)), load(at, word(3, 5)), load(nextAt(a, 5), 3), cas(at, word(3, 5), word(4, 2)))
	lies(t, a, at, 2, 1)
}

// 12.1: a swap that is lost to a pop; the second time none is left.
func TestPopLostToAPop(t *testing.T) {
	a := made(t, 8, 2)
	at := headAt(2, 0, 0)
	lay(t, a, at, 1, 2)
	m, o := mustPop(t, a, at), mustPop(t, a, at)
	steps(t, a, m, load(at, word(2, 2)), load(nextAt(a, 2), 2))
	all(t, a, o, 2, load(at, word(2, 2)), load(nextAt(a, 2), 2), cas(at, word(2, 2), word(3, 1)))
	steps(t, a, m, lost(at, word(3, 1)), load(at, word(3, 1)), load(nextAt(a, 1), 0))
	run(t, a, mustPop(t, a, at))
	all(t, a, m, -1, lost(at, word(4, -1)), load(at, word(4, -1)))
}

// 12.1, 12.2: a swap may be lost again and again, and each time all is done anew.
func TestLostOften(t *testing.T) {
	a := made(t, 40, 2)
	at := headAt(2, 0, 0)
	lay(t, a, at, 9)
	pop, push := mustPop(t, a, at), mustPush(t, a, at, 3)
	steps(t, a, pop, load(at, word(1, 9)), load(nextAt(a, 9), 0))
	steps(t, a, push, load(at, word(1, 9)), put(nextAt(a, 3), 0, 10))
	for p := 10; p < 30; p++ {
		lay(t, a, at, p)
		top := word(uint64(p-8), p)
		steps(t, a, pop, lost(at, top), load(at, top), load(nextAt(a, p), uint64(p)))
		steps(t, a, push, lost(at, top), load(at, top), put(nextAt(a, 3), uint64(p), uint64(p+1)))
	}
	all(t, a, pop, 29, cas(at, word(21, 29), word(22, 28)))
	steps(t, a, push, lost(at, word(22, 28)), load(at, word(22, 28)), put(nextAt(a, 3), 30, 29))
	all(t, a, push, 0, cas(at, word(22, 28), word(23, 3)))
}

// 12.1: the head was turned, and turned back to the same page, between the load and the swap: the swap is lost all the same.
func TestPopOfTheSamePageAgain(t *testing.T) {
	a := made(t, 8, 2)
	at := headAt(2, 0, 0)
	lay(t, a, at, 1, 2)
	m := mustPop(t, a, at)
	steps(t, a, m, load(at, word(2, 2)), load(nextAt(a, 2), 2))
	run(t, a, mustPop(t, a, at))
	run(t, a, mustPop(t, a, at))
	lay(t, a, at, 2)
	// Page 2 is on top again, but page 1 does not lie below it any more.
	lies(t, a, at, 2)
	all(t, a, m, 2, lost(at, word(5, 2)), load(at, word(5, 2)), load(nextAt(a, 2), 0), cas(at, word(5, 2), word(6, -1)))
	lies(t, a, at)
}

// 12.1: likewise between the load of the head and that of KNext.
func TestPopOfTheSamePageAgainAheadOfKNext(t *testing.T) {
	a := made(t, 8, 2)
	at := headAt(2, 0, 0)
	lay(t, a, at, 1, 2)
	m := mustPop(t, a, at)
	steps(t, a, m, load(at, word(2, 2)))
	run(t, a, mustPop(t, a, at))
	lay(t, a, at, 3, 2)
	all(t, a, m, 2, load(nextAt(a, 2), 4), lost(at, word(5, 2)), load(at, word(5, 2)), load(nextAt(a, 2), 4), cas(at, word(5, 2), word(6, 3)))
	lies(t, a, at, 3, 1)
}

// 12.2: a swap that is lost to a push, and one to a pop: KNext is put anew.
func TestPushLost(t *testing.T) {
	a := made(t, 8, 2)
	at := headAt(2, 0, 0)
	m := mustPush(t, a, at, 4)
	steps(t, a, m, load(at, 0))
	lay(t, a, at, 6)
	steps(t, a, m, put(nextAt(a, 4), 0, 0), lost(at, word(1, 6)), load(at, word(1, 6)), put(nextAt(a, 4), 0, 7))
	run(t, a, mustPop(t, a, at))
	all(t, a, m, 0, lost(at, word(2, -1)), load(at, word(2, -1)), put(nextAt(a, 4), 7, 0), cas(at, word(2, -1), word(3, 4)))
	lies(t, a, at, 4)
}

// 12.2: the head was turned, and turned back to the same page, between the load and the swap.
func TestPushOnTheSamePageAgain(t *testing.T) {
	a := made(t, 8, 2)
	at := headAt(2, 0, 0)
	lay(t, a, at, 1, 2)
	m := mustPush(t, a, at, 7)
	steps(t, a, m, load(at, word(2, 2)), put(nextAt(a, 7), 0, 3))
	run(t, a, mustPop(t, a, at))
	lay(t, a, at, 2)
	all(t, a, m, 0, lost(at, word(4, 2)), load(at, word(4, 2)), put(nextAt(a, 7), 3, 3), cas(at, word(4, 2), word(5, 7)))
	lies(t, a, at, 7, 2, 1)
}

// 12.1, 12.2: a swap is lost if the tag alone, or the page alone, is another one.
func TestLostToHalfAHead(t *testing.T) {
	for _, other := range []uint64{word(4, 2), word(2, 2), word(3, 1), word(3, -1), word(3+1<<31, 2), 3<<32 + 4098} {
		a := made(t, 8, 2)
		at := headAt(2, 0, 0)
		a.Store().Put(at, word(3, 2))
		pop, push := mustPop(t, a, at), mustPush(t, a, at, 6)
		steps(t, a, pop, load(at, word(3, 2)), load(nextAt(a, 2), 0))
		steps(t, a, push, load(at, word(3, 2)), put(nextAt(a, 6), 0, 3))
		a.Store().Put(at, other)
		steps(t, a, pop, lost(at, other), load(at, other))
		steps(t, a, push, lost(at, other), load(at, other))
	}
}

// 12.1: what counts is what was loaded: KNext is asked at its step, not ahead of it, and not again.
func TestPopGoesByWhatWasLoaded(t *testing.T) {
	a := made(t, 8, 2)
	at := headAt(2, 0, 0)
	lay(t, a, at, 1, 2)
	m := mustPop(t, a, at)
	steps(t, a, m, load(at, word(2, 2)))
	a.Store().Put(nextAt(a, 2), 6)
	steps(t, a, m, load(nextAt(a, 2), 6))
	a.Store().Put(nextAt(a, 2), 8)
	all(t, a, m, 2, cas(at, word(2, 2), word(3, 5)))
}

// 12.2: a push goes by the head that it loaded, whatever stands in KNext, and in the head, meanwhile.
func TestPushGoesByWhatWasLoaded(t *testing.T) {
	a := made(t, 8, 2)
	at := headAt(2, 0, 0)
	lay(t, a, at, 1)
	m := mustPush(t, a, at, 4)
	steps(t, a, m, load(at, word(1, 1)))
	a.Store().Put(at, word(9, 5))
	a.Store().Put(nextAt(a, 4), 6)
	steps(t, a, m, put(nextAt(a, 4), 6, 2))
	a.Store().Put(nextAt(a, 4), 7)
	a.Store().Put(at, word(1, 1))
	all(t, a, m, 0, cas(at, word(1, 1), word(2, 4)))
}

// 12.1: Page ahead of each step, behind a pop that took a page, and behind one that found none; other pops do not turn it.
func TestPage(t *testing.T) {
	a := made(t, 8, 2)
	at := headAt(2, 0, 0)
	lay(t, a, at, 0, 7)
	m, o, none := mustPop(t, a, at), mustPop(t, a, at), mustPop(t, a, at)
	for range 3 {
		page(t, m, -1)
		m.Step(a)
	}
	run(t, a, o)
	run(t, a, none)
	page(t, m, 7)
	page(t, o, 0)
	page(t, none, -1)
	lay(t, a, at, 7)
	m.Step(a)
	none.Step(a)
	page(t, m, 7)
	page(t, none, -1)
	lies(t, a, at, 7)
}

// 12.1: Page of a pop that lost a swap is -1, though it had seen a page.
func TestPageOfOneThatLost(t *testing.T) {
	a := made(t, 8, 2)
	at := headAt(2, 0, 0)
	lay(t, a, at, 3)
	m := mustPop(t, a, at)
	steps(t, a, m, load(at, word(1, 3)), load(nextAt(a, 3), 0))
	run(t, a, mustPop(t, a, at))
	steps(t, a, m, lost(at, word(2, -1)))
	page(t, m, -1)
	if m.Done() {
		t.Error("one that lost is done")
	}
	all(t, a, m, -1, load(at, word(2, -1)))
}

// 12.1, 12.2: Done is told behind the last step, not ahead of it; to be asked turns nothing.
func TestDone(t *testing.T) {
	a := made(t, 8, 2)
	at := headAt(2, 0, 0)
	for _, m := range []machine{mustPush(t, a, at, 3), mustPop(t, a, at)} {
		for range 3 {
			for range 3 {
				if m.Done() {
					t.Fatal("it is done ahead of its end")
				}
			}
			m.Step(a)
		}
		if !m.Done() || !m.Done() {
			t.Error("it is not done")
		}
	}
	if a.Store().Count() != 6 {
		t.Errorf("%d accesses, want 6", a.Store().Count())
	}
}

// strange are arenas in which no machine of 8 pages and 2 threads has a step.
func strange(t *testing.T) []*arena.Arena {
	t.Helper()
	list := []*arena.Arena{nil, {}}
	for _, l := range []api.Layout{{Pages: 9, Threads: 2}, {Pages: 7, Threads: 2}, {Pages: 8, Threads: 1}, {Pages: 8, Threads: 3}, {Pages: 2, Threads: 8}, {Pages: 1, Threads: 1}, {Pages: 4096, Threads: 64}} {
		b := made(t, l.Pages, l.Threads)
		lay(t, b, 8, 0)
		list = append(list, b)
	}
	return list
}

// 12.1, 12.2, machines: ahead of each step, and behind the last, no arena, and one of another layout, is none; it goes on as if nothing had been.
func TestStrangeArenas(t *testing.T) {
	a := made(t, 8, 2)
	at := 8
	lay(t, a, at, 1, 2)
	others := strange(t)
	push, pop := mustPush(t, a, at, 5), mustPop(t, a, at)
	for _, c := range []struct {
		m    machine
		want []api.Did
	}{
		{push, []api.Did{load(at, word(2, 2)), put(nextAt(a, 5), 0, 3), cas(at, word(2, 2), word(3, 5))}},
		{pop, []api.Did{load(at, word(3, 5)), load(nextAt(a, 5), 3), cas(at, word(3, 5), word(4, 2))}},
	} {
		for _, d := range c.want {
			for _, b := range others {
				idle(t, a, c.m, b)
				page(t, c.m, -1)
			}
			steps(t, a, c.m, d)
		}
		for _, b := range others {
			idle(t, a, c.m, b)
			page(t, c.m, 5)
		}
	}
	lies(t, a, at, 2, 1)
}

// Machines: a step is done in the arena that is handed in, of the same layout; the other one stays.
func TestTwoArenas(t *testing.T) {
	a, b := made(t, 8, 2), made(t, 8, 2)
	at := headAt(5, 1, 0)
	lay(t, a, at, 1, 2)
	lay(t, b, at, 4, 3)
	steps(t, a, mustPop(t, a, at), load(at, word(2, 2)))
	m := mustPop(t, a, at)
	words := a.Store().Words()
	all(t, b, m, 3, load(at, word(2, 3)), load(nextAt(b, 3), 5), cas(at, word(2, 3), word(3, 4)))
	if !slices.Equal(a.Store().Words(), words) {
		t.Error("the other arena was turned")
	}
	lies(t, a, at, 2, 1)
	lies(t, b, at, 4)
	idle(t, a, m, a)
}

// 12.3: of an empty stack, of one page, of several from the top on, each head by itself.
func TestList(t *testing.T) {
	a := made(t, 70, 3)
	lies(t, a, 8)
	lies(t, a, 67)
	lay(t, a, 8, 69)
	lies(t, a, 8, 69)
	lay(t, a, 67, 3, 0, 64, 1)
	lies(t, a, 67, 1, 64, 0, 3)
	lies(t, a, 8, 69)
	lies(t, a, 9)
	run(t, a, mustPop(t, a, 67))
	lies(t, a, 67, 64, 0, 3)
	run(t, a, mustPop(t, a, 8))
	lies(t, a, 8)
}

// 12.3: a page that is being pushed does not lie there ahead of the swap that wins; one that is being popped lies there till then.
func TestListBetweenSteps(t *testing.T) {
	a := made(t, 8, 2)
	lay(t, a, 8, 1)
	push := mustPush(t, a, 8, 2)
	for range 2 {
		push.Step(a)
		lies(t, a, 8, 1)
	}
	push.Step(a)
	lies(t, a, 8, 2, 1)
	pop := mustPop(t, a, 8)
	for range 2 {
		pop.Step(a)
		lies(t, a, 8, 2, 1)
	}
	pop.Step(a)
	lies(t, a, 8, 1)
}

// 12.3: words that go round are told as far as there are pages, and no further.
func TestListGoesRound(t *testing.T) {
	a := made(t, 5, 1)
	a.Store().Put(8, word(3, 2))
	a.Store().Put(nextAt(a, 2), 3)
	lies(t, a, 8, 2, 2, 2, 2, 2)
	a.Store().Put(nextAt(a, 2), 5)
	a.Store().Put(nextAt(a, 4), 1)
	a.Store().Put(nextAt(a, 0), 3)
	lies(t, a, 8, 2, 4, 0, 2, 4)
	a.Store().Put(nextAt(a, 0), 5)
	lies(t, a, 8, 2, 4, 0, 4, 0)

	one := made(t, 1, 1)
	one.Store().Put(8, word(3, 0))
	one.Store().Put(nextAt(one, 0), 1)
	lies(t, one, 8, 0)

	most := made(t, 4096, 64)
	for p := range 4096 {
		most.Store().Put(nextAt(most, p), uint64((p+1)%4096+1))
	}
	most.Store().Put(67, word(1, 17))
	got := List(most, 67)
	if len(got) != 4096 || got[0] != 17 || got[4095] != 16 {
		t.Errorf("List of all pages in a ring: %d of them", len(got))
	}
}

// 12.3: all pages, one above the other, are told; no more than these.
func TestListOfAll(t *testing.T) {
	for _, pages := range []int{1, 2, 63, 64, 65} {
		a := made(t, pages, 2)
		var want []int
		for p := range pages {
			lay(t, a, 33, p)
			want = append([]int{p}, want...)
		}
		lies(t, a, 33, want...)
	}
}

// 12.3: of no arena, and of what is no head's word.
func TestListOfNone(t *testing.T) {
	var none *arena.Arena
	for _, b := range []*arena.Arena{none, {}} {
		for at := -1; at < 100; at++ {
			if got := List(b, at); len(got) != 0 {
				t.Errorf("List of no arena, head %d: %v", at, got)
			}
		}
	}
	a := made(t, 8, 2)
	for at := range a.Store().Len() {
		// Each word would be a head of page 0, if it were one.
		a.Store().Put(at, 1)
	}
	for at := -100; at < 1000; at++ {
		if at < 8 || at > 67 {
			lies(t, a, at)
		}
	}
	for _, at := range far() {
		lies(t, a, at)
	}
	lies(t, a, 8, 0, 0, 0, 0, 0, 0, 0, 0)
}

// 12.3, R4: each list is new memory, spare room too.
func TestListIsNew(t *testing.T) {
	a := made(t, 8, 2)
	lay(t, a, 8, 1, 2, 3)
	first, second := List(a, 8), List(a, 8)
	first = first[:cap(first)]
	for i := range first {
		first[i] = 99
	}
	second = append(second[:1], 77, 77)
	lies(t, a, 8, 3, 2, 1)
	if second[0] != 3 || first[0] != 99 || first[1] != 99 {
		t.Errorf("two lists share: %v, %v", first, second)
	}
}

// strangeWords are what a word may hold besides what it should.
func strangeWords() []uint64 {
	return []uint64{
		0, 1, 2, 4, 5, 6, 4095, 4096, 4097, 4098, 1 << 31, 1<<32 - 1, 1 << 32, 1<<32 + 1, 1<<32 + 2, 5<<32 + 4096, 5<<32 + 4097,
		1<<63 - 1, 1 << 63, 1<<63 + 1, 1<<63 + 5, lastTag << 32, lastTag<<32 + 3, lastTag<<32 + 4096, math.MaxUint64 - 1, math.MaxUint64,
	}
}

// 12.1, 12.2: a head whose page is above all that may be has none: it is told apart by its word all the same.
func TestHeadOfNoPage(t *testing.T) {
	for _, low := range []uint64{4097, 4098, 1 << 16, 1<<31 + 1, 1<<32 - 1} {
		a := made(t, 4, 1)
		w := 9<<32 + low
		a.Store().Put(67, w)
		lies(t, a, 67)
		all(t, a, mustPop(t, a, 67), -1, load(67, w))
		a.Store().Put(nextAt(a, 2), 55)
		all(t, a, mustPush(t, a, 67, 2), 0, load(67, w), put(nextAt(a, 2), 55, 0), cas(67, w, word(10, 2)))
		lies(t, a, 67, 2)
	}
}

// R1, machines: whatever the words hold, each step ends, and is one access; alone a machine is done with three at most.
func TestStrangeWords(t *testing.T) {
	for _, pages := range []int{1, 4, 4096} {
		a := made(t, pages, 1)
		for _, head := range strangeWords() {
			for _, next := range strangeWords() {
				for _, m := range []machine{mustPop(t, a, 8), mustPush(t, a, 8, 0), mustPush(t, a, 8, pages-1)} {
					a.Store().Put(8, head)
					for p := range min(pages, 4) {
						a.Store().Put(nextAt(a, p), next)
					}
					alone(t, a, m)
					if got := List(a, 8); len(got) > pages {
						t.Errorf("List: %d of %d pages", len(got), pages)
					}
				}
			}
		}
	}
}

// alone fails unless m comes to its end by three accesses at most.
func alone(t *testing.T, a *arena.Arena, m machine) {
	t.Helper()
	for range 3 {
		if m.Done() {
			return
		}
		count := a.Store().Count()
		if d := m.Step(a); d != a.Store().Last() || a.Store().Count() != count+1 {
			t.Errorf("a step: %v, Last %v, %d accesses", d, a.Store().Last(), a.Store().Count()-count)
		}
	}
	if !m.Done() {
		t.Error("it is not done by three steps")
	}
}

// R1: a KNext that names no page that may be leaves a stack of which nothing lies below, not one of another tag.
func TestNextOfNoPage(t *testing.T) {
	for _, w := range []uint64{4097, 1 << 32, 1<<32 + 2, 1 << 63, math.MaxUint64} {
		a := made(t, 4, 1)
		a.Store().Put(8, word(6, 3))
		a.Store().Put(nextAt(a, 3), w)
		lies(t, a, 8, 3)
		all(t, a, mustPop(t, a, 8), 3, load(8, word(6, 3)), load(nextAt(a, 3), w), cas(8, word(6, 3), word(7, -1)))
	}
}

// R1: a head of a page that is not there has none to be taken, or told.
func TestHeadOfAPageThatIsNotThere(t *testing.T) {
	for _, p := range []int{4, 5, 100, 4095} {
		a := made(t, 4, 1)
		a.Store().Put(8, word(6, p))
		lies(t, a, 8)
		all(t, a, mustPop(t, a, 8), -1, load(8, word(6, p)))
		a.Store().Put(8, word(6, 1))
		a.Store().Put(nextAt(a, 1), uint64(p+1))
		lies(t, a, 8, 1)
	}
}

// R6
func TestNilMachines(t *testing.T) {
	var pop *Pop
	var push *Push
	a := made(t, 8, 2)
	lay(t, a, 8, 3)
	for _, m := range []machine{pop, push} {
		if m.Done() {
			t.Error("nil is done")
		}
		for _, b := range append(strange(t), a) {
			idle(t, a, m, b)
		}
	}
	if pop.Page() != 0 {
		t.Errorf("Page of nil: %d", pop.Page())
	}
}

// R1: machines, and arenas, that no New made, do nothing.
func TestZeroMachines(t *testing.T) {
	a := made(t, 8, 2)
	lay(t, a, 8, 3)
	for _, m := range []machine{&Pop{}, &Push{}} {
		for _, b := range append(strange(t), a) {
			idle(t, a, m, b)
		}
		if m.Done() {
			t.Error("it is done")
		}
	}
	if got := new(Pop).Page(); got != -1 {
		t.Errorf("Page %d", got)
	}
}

// R1: likewise if somebody has laid a store without words over the arena's own.
func TestArenaWithoutWords(t *testing.T) {
	a := made(t, 8, 2)
	pop, push := mustPop(t, a, 8), mustPush(t, a, 8, 0)
	*a.Store() = store.Store{}
	idle(t, a, pop, a)
	idle(t, a, push, a)
	if got := List(a, 8); len(got) != 0 {
		t.Errorf("List: %v", got)
	}
}

// 12.2: the chapter's example.
func TestExamples(t *testing.T) {
	a := made(t, 8, 2)
	all(t, a, mustPush(t, a, 8, 3), 0, load(8, 0), put(nextAt(a, 3), 0, 0), cas(8, 0, 1<<32+4))
	lies(t, a, 8, 3)
}
