package sweep

import (
	"math"
	"slices"
	"testing"

	"dustpan/api"
	"dustpan/arena"
	"dustpan/store"
)

// made is a new arena of pages and threads, which must be there.
func made(t *testing.T, pages, threads int) *arena.Arena {
	t.Helper()
	a := arena.New(api.Setup{Pages: pages, Threads: threads})
	if a == nil {
		t.Fatalf("no arena of %d pages, %d threads", pages, threads)
	}
	return a
}

// filled is a new arena all of whose words differ: w, and one more each.
func filled(t *testing.T, pages, threads int, w uint64) *arena.Arena {
	t.Helper()
	a := made(t, pages, threads)
	for at := range a.Store().Len() {
		a.Store().Put(at, w+uint64(at))
	}
	return a
}

// mustSweep is a new sweep, which must be there.
func mustSweep(t *testing.T, a *arena.Arena, page int) *Sweep {
	t.Helper()
	m := NewSweep(a.Layout(), page)
	if m == nil {
		t.Fatalf("NewSweep(%v, %d): nil", a.Layout(), page)
	}
	return m
}

// allocAt and markAt are where KAlloc and KMark of a page stand, as the chapter of the layout says.
func allocAt(l api.Layout, page int) int { return 68 + 14*l.Threads + 5*page + 3 }
func markAt(l api.Layout, page int) int  { return 68 + 14*l.Threads + 5*page + 4 }

// set lets alloc and mark stand in the words of page.
func set(a *arena.Arena, page int, alloc, mark uint64) {
	a.Store().Put(allocAt(a.Layout(), page), alloc)
	a.Store().Put(markAt(a.Layout(), page), mark)
}

// holds fails unless just that stands in the words of page.
func holds(t *testing.T, a *arena.Arena, page int, alloc, mark uint64) {
	t.Helper()
	words := a.Store().Words()
	if got, marked := words[allocAt(a.Layout(), page)], words[markAt(a.Layout(), page)]; got != alloc || marked != mark {
		t.Errorf("page %d: KAlloc %#x, KMark %#x, want %#x, %#x", page, got, marked, alloc, mark)
	}
}

// both and alone are the bits that two words have, and that the first one has and the second has not, bit by bit.
func both(w, v uint64) uint64 {
	var sum uint64
	for i := range 64 {
		if w>>i&1 == 1 && v>>i&1 == 1 {
			sum |= 1 << i
		}
	}
	return sum
}

func alone(w, v uint64) uint64 {
	var sum uint64
	for i := range 64 {
		if w>>i&1 == 1 && v>>i&1 == 0 {
			sum |= 1 << i
		}
	}
	return sum
}

// trace is a sweep, and what the chapter says that it has loaded, and has left to do.
type trace struct {
	m           *Sweep
	page, did   int
	alloc, mark uint64
}

// newTrace is one of a new sweep of page.
func newTrace(t *testing.T, a *arena.Arena, page int) *trace {
	t.Helper()
	return &trace{m: mustSweep(t, a, page), page: page}
}

// next is what the sweep's next step does in a, as the chapter says.
func (x *trace) next(a *arena.Arena) api.Did {
	l, words := a.Layout(), a.Store().Words()
	alloc, mark := words[allocAt(l, x.page)], words[markAt(l, x.page)]
	switch x.did {
	case 0:
		x.mark = mark
		return api.Did{Kind: api.DLoad, At: markAt(l, x.page), Old: mark, New: mark}
	case 1:
		x.alloc = alloc
		return api.Did{Kind: api.DLoad, At: allocAt(l, x.page), Old: alloc, New: alloc}
	case 2:
		return api.Did{Kind: api.DPut, At: allocAt(l, x.page), Old: alloc, New: both(x.alloc, x.mark)}
	}
	return api.Did{Kind: api.DPut, At: markAt(l, x.page), Old: mark, New: 0}
}

// tells fails unless Done and Freed tell what they must just now; being asked is no access, and turns nothing.
func (x *trace) tells(t *testing.T, a *arena.Arena) {
	t.Helper()
	words, count, last := a.Store().Words(), a.Store().Count(), a.Store().Last()
	var freed uint64
	if x.did > 2 {
		freed = alone(x.alloc, x.mark)
	}
	for range 2 {
		if got := x.m.Done(); got != (x.did == 4) {
			t.Errorf("behind %d steps: Done %v", x.did, got)
		}
		if got := x.m.Freed(); got != freed {
			t.Errorf("behind %d steps: Freed %#x, want %#x", x.did, got, freed)
		}
	}
	if a.Store().Count() != count || a.Store().Last() != last || !slices.Equal(a.Store().Words(), words) {
		t.Error("to be asked is an access, or turns a word")
	}
}

// step fails unless the next step is the chapter's: one access, told as the store's Last, and nothing else turned.
func (x *trace) step(t *testing.T, a *arena.Arena) {
	t.Helper()
	x.tells(t, a)
	words, count, free := a.Store().Words(), a.Store().Count(), a.Runs().List()
	want := x.next(a)
	if got := x.m.Step(a); got != want {
		t.Fatalf("step %d of page %d: %v, want %v", x.did, x.page, got, want)
	}
	x.did++
	if got := a.Store().Last(); got != want || a.Store().Count() != count+1 {
		t.Errorf("Last %v, want %v; %d accesses", got, want, a.Store().Count()-count)
	}
	words[want.At] = want.New
	if !slices.Equal(a.Store().Words(), words) || !slices.Equal(a.Runs().List(), free) {
		t.Errorf("%v: another word, or the free runs, were turned", want)
	}
	x.tells(t, a)
}

// all does all steps that are left, and fails unless it does nothing any more behind them.
func (x *trace) all(t *testing.T, a *arena.Arena) {
	t.Helper()
	for x.did < 4 {
		x.step(t, a)
	}
	for range 3 {
		x.idle(t, a, a)
	}
}

// idle fails unless a step in b is none, and turns nothing there, nor in a.
func (x *trace) idle(t *testing.T, a, b *arena.Arena) {
	t.Helper()
	idle(t, x.m, a, b)
	x.tells(t, a)
}

// idle fails unless a step of m in b is none, and turns nothing there, nor in a.
func idle(t *testing.T, m *Sweep, a, b *arena.Arena) {
	t.Helper()
	pair := []*arena.Arena{a, b}
	var words [2][]uint64
	var count [2]int
	var last [2]api.Did
	for i, c := range pair {
		words[i], count[i], last[i] = c.Store().Words(), c.Store().Count(), c.Store().Last()
	}
	if d := m.Step(b); d != (api.Did{}) {
		t.Errorf("a step that is none: %v", d)
	}
	for i, c := range pair {
		if !slices.Equal(c.Store().Words(), words[i]) || c.Store().Count() != count[i] || c.Store().Last() != last[i] {
			t.Error("a step that is none turned a word, or is an access")
		}
	}
}

// swept does a whole sweep of page, each step of which must be the chapter's, and answers its Freed.
func swept(t *testing.T, a *arena.Arena, page int) uint64 {
	t.Helper()
	x := newTrace(t, a, page)
	x.all(t, a)
	return x.m.Freed()
}

// far are numbers of no page; some have the lowest bits of one that is.
func far() []int {
	return []int{
		-1, -2, -3, -8, -64, -4096, math.MinInt32, -1 << 32, -1<<32 + 1, -1 << 62, math.MinInt + 1, math.MinInt,
		4096, 4097, 1 << 16, 1 << 31, 1 << 32, 1<<32 + 1, 1<<32 + 3, 1 << 62, 1<<62 + 1, math.MaxInt - 8, math.MaxInt - 1, math.MaxInt,
	}
}

func someLayouts() []api.Layout {
	return []api.Layout{{Pages: 1, Threads: 1}, {Pages: 8, Threads: 2}, {Pages: 2, Threads: 64}, {Pages: 70, Threads: 3}, {Pages: 4096, Threads: 64}}
}

// noLayouts may not be.
func noLayouts() []api.Layout {
	return []api.Layout{
		{}, {Pages: 8}, {Threads: 2}, {Pages: -1, Threads: 2}, {Pages: 8, Threads: -1}, {Pages: 4097, Threads: 2}, {Pages: 8, Threads: 65},
		{Pages: 1<<32 + 8, Threads: 2}, {Pages: 8, Threads: 1<<32 + 2}, {Pages: math.MaxInt, Threads: math.MaxInt}, {Pages: math.MinInt, Threads: math.MinInt},
		{Pages: math.MaxInt, Threads: 2}, {Pages: 8, Threads: math.MaxInt}, {Pages: math.MinInt, Threads: 2}, {Pages: 8, Threads: math.MinInt},
	}
}

// strangeWords are what a word may hold, whatever it is for.
func strangeWords() []uint64 {
	return []uint64{
		0, 1, 2, 3, 5, 6, 7, 8, 255, 256, 1<<16 + 1, 1<<31 - 1, 1 << 31, 1<<32 - 1, 1 << 32, 1<<32 + 1, 0x5555555555555555, 0xaaaaaaaaaaaaaaaa,
		1<<62 + 2, 1<<63 - 1, 1 << 63, 1<<63 + 1, math.MaxUint64 - 7, math.MaxUint64 - 1, math.MaxUint64,
	}
}

// 15.1: of what pages there are sweeps: those from the first to the last, and no others.
func TestNewOfPages(t *testing.T) {
	for _, l := range someLayouts() {
		for page := -100; page < l.Pages+100; page++ {
			if got, want := NewSweep(l, page) != nil, page >= 0 && page < l.Pages; got != want {
				t.Errorf("NewSweep(%v, %d): %v", l, page, got)
			}
		}
		for _, page := range append(far(), l.Pages) {
			if NewSweep(l, page) != nil {
				t.Errorf("NewSweep(%v, %d): not nil", l, page)
			}
		}
	}
}

// 15.1: of layouts that may not be there is none.
func TestNewOfLayouts(t *testing.T) {
	for _, l := range noLayouts() {
		for _, page := range append(far(), 0, 1, 2, 7, 8) {
			if NewSweep(l, page) != nil {
				t.Errorf("NewSweep(%v, %d): not nil", l, page)
			}
		}
	}
	for pages := -1; pages <= 4098; pages++ {
		for _, threads := range []int{-1, 0, 1, 64, 65} {
			l := api.Layout{Pages: pages, Threads: threads}
			want := pages >= 1 && pages <= 4096 && threads >= 1 && threads <= 64
			for _, page := range []int{0, pages - 1} {
				if got := NewSweep(l, page) != nil; got != (want && page >= 0) {
					t.Errorf("NewSweep(%v, %d): %v", l, page, got)
				}
			}
			if NewSweep(l, pages) != nil || NewSweep(l, -1) != nil {
				t.Errorf("of %v there is a sweep of page %d, or of -1", l, pages)
			}
		}
	}
}

// 15.1: one that has not begun is not done, has freed nothing, and turned nothing, whatever stands there.
func TestNewHasNotBegun(t *testing.T) {
	a := made(t, 8, 2)
	words := a.Store().Words()
	for page := range 8 {
		m := mustSweep(t, a, page)
		if m.Done() || m.Freed() != 0 {
			t.Errorf("it has not begun: Done %v, Freed %#x", m.Done(), m.Freed())
		}
	}
	if a.Store().Count() != 0 || a.Store().Last() != (api.Did{}) || !slices.Equal(a.Store().Words(), words) {
		t.Error("to be made, and to be asked, is an access")
	}
	set(a, 3, 7, 5)
	newTrace(t, a, 3).tells(t, a)
	holds(t, a, 3, 7, 5)
}

// 15.1: each step, whatever the two words hold: no bits, all, of the one alone, of the other alone, of both.
func TestEachPairOfWords(t *testing.T) {
	a := made(t, 2, 1)
	for _, alloc := range strangeWords() {
		for _, mark := range strangeWords() {
			set(a, 1, alloc, mark)
			freed := swept(t, a, 1)
			holds(t, a, 1, both(alloc, mark), 0)
			if freed != alone(alloc, mark) {
				t.Errorf("KAlloc %#x, KMark %#x: Freed %#x", alloc, mark, freed)
			}
		}
	}
}

// 15.1: each bit by itself: allocated alone it is freed, with its mark it stays, marked alone it comes to nothing.
func TestEachBit(t *testing.T) {
	a := made(t, 2, 1)
	for i := range 64 {
		bit := uint64(1) << i
		for _, x := range []struct{ alloc, mark, left, freed uint64 }{
			{0, 0, 0, 0}, {bit, 0, 0, bit}, {0, bit, 0, 0}, {bit, bit, bit, 0},
			{math.MaxUint64, bit, bit, ^bit}, {math.MaxUint64, ^bit, ^bit, bit}, {bit, math.MaxUint64, bit, 0}, {bit, ^bit, 0, bit}, {^bit, bit, 0, ^bit}, {^bit, math.MaxUint64, ^bit, 0},
		} {
			set(a, 0, x.alloc, x.mark)
			if freed := swept(t, a, 0); freed != x.freed {
				t.Errorf("KAlloc %#x, KMark %#x: Freed %#x, want %#x", x.alloc, x.mark, freed, x.freed)
			}
			holds(t, a, 0, x.left, 0)
		}
	}
}

// 15.1: the first pages, some, and the last ones, of layouts from the least to the greatest.
func TestEachLayout(t *testing.T) {
	for _, l := range someLayouts() {
		a := made(t, l.Pages, l.Threads)
		for i, page := range []int{0, min(1, l.Pages-1), l.Pages / 2, max(0, l.Pages-2), l.Pages - 1} {
			alloc, mark := uint64(0xf0f1)<<i, uint64(0xff31)<<i
			set(a, page, alloc, mark)
			if freed := swept(t, a, page); freed != alone(alloc, mark) {
				t.Errorf("%v, page %d: Freed %#x", l, page, freed)
			}
			holds(t, a, page, both(alloc, mark), 0)
		}
	}
}

// 15.1: no other word is asked, or turned, and none counts, whatever they hold: those of other pages stay, and the page's others, too.
func TestOtherWords(t *testing.T) {
	for _, w := range strangeWords() {
		for page := range 8 {
			a := filled(t, 8, 2, w)
			set(a, page, 29, 23)
			want := a.Store().Words()
			if freed := swept(t, a, page); freed != 8 {
				t.Errorf("Freed %#x", freed)
			}
			want[allocAt(a.Layout(), page)], want[markAt(a.Layout(), page)] = 21, 0
			if !slices.Equal(a.Store().Words(), want) {
				t.Errorf("page %d: another word was turned", page)
			}
		}
	}
}

// 15.1: what was loaded counts, whatever somebody else put there ahead of any step.
func TestTurnedBetweenSteps(t *testing.T) {
	for at := range 5 {
		for _, w := range strangeWords() {
			for _, v := range []uint64{0, 6, math.MaxUint64} {
				a := made(t, 8, 2)
				set(a, 5, 7, 5)
				x := newTrace(t, a, 5)
				for x.did < at {
					x.step(t, a)
				}
				set(a, 5, w, v)
				x.tells(t, a)
				x.all(t, a)
				alloc, mark := uint64(7), uint64(5)
				if at < 1 {
					mark = v
				}
				if at < 2 {
					alloc = w
				}
				if got := x.m.Freed(); got != alone(alloc, mark) {
					t.Errorf("turned ahead of step %d: Freed %#x, want %#x", at, got, alone(alloc, mark))
				}
			}
		}
	}
}

// 15.1: what somebody else puts behind the put of KAlloc stays, and behind the last step KMark, too.
func TestTurnedBehind(t *testing.T) {
	a := made(t, 8, 2)
	set(a, 5, 7, 5)
	x := newTrace(t, a, 5)
	for range 3 {
		x.step(t, a)
	}
	holds(t, a, 5, 5, 5)
	set(a, 5, 9, 3)
	x.step(t, a)
	holds(t, a, 5, 9, 0)
	set(a, 5, 10, 12)
	x.all(t, a)
	holds(t, a, 5, 10, 12)
	if x.m.Freed() != 2 {
		t.Errorf("Freed %d", x.m.Freed())
	}
}

// 15.2: a second sweep without marks frees all that the first one left, and a third one nothing.
func TestSweptAgain(t *testing.T) {
	for _, alloc := range strangeWords() {
		for _, mark := range strangeWords() {
			a := made(t, 2, 1)
			set(a, 1, alloc, mark)
			swept(t, a, 1)
			left := both(alloc, mark)
			if freed := swept(t, a, 1); freed != left {
				t.Errorf("again: Freed %#x, want %#x", freed, left)
			}
			holds(t, a, 1, 0, 0)
			if freed := swept(t, a, 1); freed != 0 {
				t.Errorf("and again: Freed %#x", freed)
			}
			holds(t, a, 1, 0, 0)
		}
	}
}

// 15.2: with marks in between, only what they leave out is freed; what is allocated in between is freed without one.
func TestSweptAgainWithMarks(t *testing.T) {
	a := made(t, 2, 1)
	set(a, 1, 0xff, 0x3c)
	swept(t, a, 1)
	holds(t, a, 1, 0x3c, 0)
	set(a, 1, 0x3c|0x100, 0x18)
	if freed := swept(t, a, 1); freed != 0x124 {
		t.Errorf("Freed %#x", freed)
	}
	holds(t, a, 1, 0x18, 0)
	if freed := swept(t, a, 1); freed != 0x18 {
		t.Errorf("Freed %#x", freed)
	}
	holds(t, a, 1, 0, 0)
}

// 15.1, machines: one that is done stays so, and does nothing, whatever comes behind it; what it freed stays told.
func TestDoneStaysDone(t *testing.T) {
	a := made(t, 8, 2)
	set(a, 2, 7, 5)
	x := newTrace(t, a, 2)
	x.all(t, a)
	for range 3 {
		set(a, 2, 15, 8)
		x.idle(t, a, a)
		x.idle(t, a, made(t, 8, 2))
		swept(t, a, 2)
		x.idle(t, a, a)
		holds(t, a, 2, 8, 0)
	}
	if x.m.Freed() != 2 {
		t.Errorf("Freed %d", x.m.Freed())
	}
}

// strange are arenas in which no sweep of 8 pages and 2 threads has a step.
func strange(t *testing.T) []*arena.Arena {
	t.Helper()
	list := []*arena.Arena{nil, {}}
	for _, l := range []api.Layout{{Pages: 9, Threads: 2}, {Pages: 7, Threads: 2}, {Pages: 8, Threads: 1}, {Pages: 8, Threads: 3}, {Pages: 2, Threads: 8}, {Pages: 1, Threads: 1}, {Pages: 4096, Threads: 64}} {
		list = append(list, made(t, l.Pages, l.Threads), filled(t, l.Pages, l.Threads, 9))
	}
	return list
}

// 15.1, machines: ahead of each step, and behind the last, no arena, and one of another layout, is none; it goes on as if nothing had been.
func TestStrangeArenas(t *testing.T) {
	a := made(t, 8, 2)
	set(a, 1, 29, 23)
	others := strange(t)
	x := newTrace(t, a, 1)
	for x.did < 4 {
		for _, b := range others {
			x.idle(t, a, b)
		}
		x.step(t, a)
	}
	for _, b := range others {
		x.idle(t, a, b)
	}
	holds(t, a, 1, 21, 0)
	if x.m.Freed() != 8 {
		t.Errorf("Freed %d", x.m.Freed())
	}
}

// Machines: a step is done in the arena that is handed in, of the same layout; the other one stays.
func TestTwoArenas(t *testing.T) {
	for turns := range 16 {
		a, b := made(t, 8, 2), filled(t, 8, 2, 5)
		set(a, 6, 29, 23)
		set(b, 6, 15, 12)
		x := newTrace(t, a, 6)
		for i := range 4 {
			here, there := a, b
			if turns>>i&1 == 1 {
				here, there = b, a
			}
			words, count := there.Store().Words(), there.Store().Count()
			x.step(t, here)
			if !slices.Equal(there.Store().Words(), words) || there.Store().Count() != count {
				t.Error("the other arena was turned")
			}
		}
		x.idle(t, a, b)
		x.idle(t, b, a)
	}
}

// R6
func TestNilMachines(t *testing.T) {
	var m *Sweep
	for _, b := range append(strange(t), made(t, 8, 2), filled(t, 8, 2, 9)) {
		idle(t, m, b, b)
	}
	if m.Done() || m.Freed() != 0 {
		t.Errorf("nil: Done %v, Freed %d", m.Done(), m.Freed())
	}
}

// R1: a machine, and an arena, that no New made, do nothing.
func TestZeroMachines(t *testing.T) {
	m := &Sweep{}
	for _, b := range append(strange(t), made(t, 8, 2), filled(t, 8, 2, 9)) {
		idle(t, m, b, b)
	}
	if m.Done() || m.Freed() != 0 {
		t.Errorf("Done %v, Freed %d", m.Done(), m.Freed())
	}
}

// R1: if somebody has laid a store over the arena's own that has no words, or ends ahead of those of the page, there is no step; in a whole one again it goes on.
func TestArenaWithoutWords(t *testing.T) {
	l := api.Layout{Pages: 8, Threads: 2}
	for begun := range 5 {
		for _, n := range []int{0, 1, 60, 96, markAt(l, 2), allocAt(l, 3)} {
			a := made(t, 8, 2)
			set(a, 3, 29, 23)
			x := newTrace(t, a, 3)
			for x.did < begun {
				x.step(t, a)
			}
			whole := *a.Store()
			*a.Store() = store.Store{}
			if n > 0 {
				*a.Store() = *store.New(n)
				a.Store().Put(0, 1)
			}
			x.idle(t, a, a)
			*a.Store() = whole
			x.all(t, a)
			holds(t, a, 3, 21, 0)
			if x.m.Freed() != 8 {
				t.Errorf("Freed %d", x.m.Freed())
			}
		}
	}
}

// R1: likewise if KAlloc is the last word that there is.
func TestArenaWithoutMark(t *testing.T) {
	a := made(t, 8, 2)
	set(a, 3, 29, 23)
	x := newTrace(t, a, 3)
	whole := *a.Store()
	*a.Store() = *store.New(markAt(a.Layout(), 3))
	x.idle(t, a, a)
	*a.Store() = whole
	x.all(t, a)
	holds(t, a, 3, 21, 0)
}

// 15.1: the chapter's example.
func TestExample(t *testing.T) {
	a := made(t, 8, 2)
	set(a, 4, 7, 5)
	if freed := swept(t, a, 4); freed != 2 {
		t.Errorf("Freed %d, want 2", freed)
	}
	holds(t, a, 4, 5, 0)
}
