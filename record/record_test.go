package record

import (
	"math"
	"slices"
	"testing"

	"dustpan/api"
	"dustpan/arena"
	"dustpan/store"
)

// machine is a lay, or a gone.
type machine interface {
	Step(a *arena.Arena) api.Did
	Done() bool
}

// span is what a lay is made of.
type span struct {
	page, class, pages, gen int
	alloc                   uint64
}

// large is the class of all that is greater, as the chapter of classes says.
const large = 14

// pagesOf and slotsOf are the chapter's table of classes; of large any pages.
var (
	pagesOf = []int{1, 1, 1, 1, 1, 1, 1, 3, 1, 3, 1, 3, 2, 3, 0}
	slotsOf = []int{64, 42, 32, 21, 16, 10, 8, 16, 4, 8, 2, 4, 2, 2, 1}
)

// made is a new arena of pages and threads, which must be there.
func made(t *testing.T, pages, threads int) *arena.Arena {
	t.Helper()
	a := arena.New(api.Setup{Pages: pages, Threads: threads})
	if a == nil {
		t.Fatalf("no arena of %d pages, %d threads", pages, threads)
	}
	return a
}

// filled is a new arena all of whose words are w.
func filled(t *testing.T, pages, threads int, w uint64) *arena.Arena {
	t.Helper()
	a := made(t, pages, threads)
	for at := range a.Store().Len() {
		a.Store().Put(at, w)
	}
	return a
}

// newLay is a lay of x, or nil.
func newLay(l api.Layout, x span) *Lay {
	return NewLay(l, x.page, x.class, x.pages, x.gen, x.alloc)
}

// mustLay is a new lay, which must be there.
func mustLay(t *testing.T, a *arena.Arena, x span) *Lay {
	t.Helper()
	m := newLay(a.Layout(), x)
	if m == nil {
		t.Fatalf("NewLay(%v, %+v): nil", a.Layout(), x)
	}
	return m
}

// mustGone is a new gone, which must be there.
func mustGone(t *testing.T, a *arena.Arena, page, pages int) *Gone {
	t.Helper()
	m := NewGone(a.Layout(), page, pages)
	if m == nil {
		t.Fatalf("NewGone(%v, %d, %d): nil", a.Layout(), page, pages)
	}
	return m
}

// wordAt is where the word of a kind of a page stands, as the chapter of the layout says.
func wordAt(l api.Layout, kind, page int) int {
	states := 68 + 14*l.Threads
	if kind == api.KIndex {
		return states + 5*l.Pages + page
	}
	return states + 5*page + map[int]int{api.KState: 0, api.KBase: 1, api.KNext: 2, api.KAlloc: 3, api.KMark: 4}[kind]
}

// put is a put of v at.
type put struct {
	at int
	v  uint64
}

// did is what a put does where old stands.
func (p put) did(old uint64) api.Did {
	return api.Did{Kind: api.DPut, At: p.at, Old: old, New: p.v}
}

// lays are the puts of a lay of x, as the chapter says.
func lays(l api.Layout, x span) []put {
	var list []put
	for i := range x.pages {
		list = append(list, put{wordAt(l, api.KIndex, x.page+i), uint64(x.page) + 1})
	}
	return append(list,
		put{wordAt(l, api.KBase, x.page), uint64(256*x.pages + x.class)},
		put{wordAt(l, api.KAlloc, x.page), x.alloc},
		put{wordAt(l, api.KMark, x.page), 0},
		put{wordAt(l, api.KState, x.page), uint64(8*x.gen + 2)})
}

// goes are the puts of a gone, as the chapter says.
func goes(l api.Layout, page, pages int) []put {
	var list []put
	for i := range pages {
		list = append(list, put{wordAt(l, api.KIndex, page+i), 0})
	}
	return append(list, put{wordAt(l, api.KState, page), 0})
}

// step fails unless the next step of m is just that put: one access, told as the store's Last, and nothing else turned.
func step(t *testing.T, a *arena.Arena, m machine, p put) {
	t.Helper()
	if m.Done() {
		t.Fatalf("it is done, want %v", p)
	}
	words, count, free := a.Store().Words(), a.Store().Count(), a.Runs().List()
	want := p.did(words[p.at])
	if got := m.Step(a); got != want {
		t.Fatalf("a step: %v, want %v", got, want)
	}
	if got := a.Store().Last(); got != want || a.Store().Count() != count+1 {
		t.Errorf("Last %v, want %v; %d accesses", got, want, a.Store().Count()-count)
	}
	words[p.at] = p.v
	if !slices.Equal(a.Store().Words(), words) || !slices.Equal(a.Runs().List(), free) {
		t.Errorf("%v: another word, or the free runs, were turned", p)
	}
}

// all fails unless the steps that m has left are just those puts, and then it is done, and does nothing any more.
func all(t *testing.T, a *arena.Arena, m machine, puts []put) {
	t.Helper()
	for _, p := range puts {
		step(t, a, m, p)
	}
	if !m.Done() {
		t.Fatal("it is not done")
	}
	for range 3 {
		idle(t, a, m, a)
	}
}

// laid lays x whole, and fails unless each step is the chapter's.
func laid(t *testing.T, a *arena.Arena, x span) {
	t.Helper()
	all(t, a, mustLay(t, a, x), lays(a.Layout(), x))
}

// gone lets pages be gone, and fails unless each step is the chapter's.
func gone(t *testing.T, a *arena.Arena, page, pages int) {
	t.Helper()
	all(t, a, mustGone(t, a, page, pages), goes(a.Layout(), page, pages))
}

// idle fails unless a step of m in b is none, and turns nothing there, nor in a.
func idle(t *testing.T, a *arena.Arena, m machine, b *arena.Arena) {
	t.Helper()
	done := m.Done()
	both := []*arena.Arena{a, b}
	var words [2][]uint64
	var count [2]int
	var last [2]api.Did
	for i, c := range both {
		words[i], count[i], last[i] = c.Store().Words(), c.Store().Count(), c.Store().Last()
	}
	if d := m.Step(b); d != (api.Did{}) {
		t.Errorf("a step that is none: %v", d)
	}
	for i, c := range both {
		if !slices.Equal(c.Store().Words(), words[i]) || c.Store().Count() != count[i] || c.Store().Last() != last[i] {
			t.Error("a step that is none turned a word, or is an access")
		}
	}
	if m.Done() != done {
		t.Errorf("a step that is none: Done %v, was %v", m.Done(), done)
	}
}

// run does all steps that m has left.
func run(t *testing.T, a *arena.Arena, m machine) {
	t.Helper()
	for range 5000 {
		if m.Done() {
			return
		}
		m.Step(a)
	}
	t.Fatal("it does not end")
}

// far are numbers of no page, of no class, and of no cycle; some have the lowest bits of one that is.
func far() []int {
	return []int{
		-1, -2, -3, -64, -256, -4096, math.MinInt32, -1 << 32, -1<<32 + 1, -1 << 62, math.MinInt + 1, math.MinInt,
		1 << 32, 1<<32 + 1, 1<<32 + 3, 1 << 62, 1<<62 + 1, math.MaxInt - 8, math.MaxInt - 1, math.MaxInt,
	}
}

func someLayouts() []api.Layout {
	return []api.Layout{{Pages: 1, Threads: 1}, {Pages: 3, Threads: 1}, {Pages: 8, Threads: 2}, {Pages: 70, Threads: 3}, {Pages: 4096, Threads: 64}}
}

// noLayouts may not be.
func noLayouts() []api.Layout {
	return []api.Layout{
		{}, {Pages: 8}, {Threads: 2}, {Pages: -1, Threads: 2}, {Pages: 8, Threads: -1}, {Pages: 4097, Threads: 2}, {Pages: 8, Threads: 65},
		{Pages: 1<<32 + 8, Threads: 2}, {Pages: 8, Threads: 1<<32 + 2}, {Pages: math.MaxInt, Threads: math.MaxInt}, {Pages: math.MinInt, Threads: math.MinInt},
		{Pages: math.MaxInt, Threads: 2}, {Pages: 8, Threads: math.MaxInt}, {Pages: math.MinInt, Threads: 2}, {Pages: 8, Threads: math.MinInt},
	}
}

// strangeWords are what a word may hold, whatever it is for.
func strangeWords() []uint64 {
	return []uint64{
		1, 2, 5, 7, 8, 9, 16, 255, 256, 257, 775, 1<<16 + 1, 1<<31 - 1, 1 << 31, 1<<32 - 1, 1 << 32, 1<<32 + 1,
		1<<62 + 2, 1<<63 - 1, 1 << 63, 1<<63 + 1, math.MaxUint64 - 7, math.MaxUint64 - 1, math.MaxUint64,
	}
}

// ones is a word with the n lowest bits set.
func ones(n int) uint64 {
	var w uint64
	for i := range n {
		w |= 1 << i
	}
	return w
}

// newIs fails unless there is a lay of x just if want says so.
func newIs(t *testing.T, l api.Layout, x span, want bool) {
	t.Helper()
	if got := newLay(l, x) != nil; got != want {
		t.Errorf("NewLay(%v, %+v): %v, want %v", l, x, got, want)
	}
}

// goneIs fails unless there is a gone of the pages just if want says so.
func goneIs(t *testing.T, l api.Layout, page, pages int, want bool) {
	t.Helper()
	if got := NewGone(l, page, pages) != nil; got != want {
		t.Errorf("NewGone(%v, %d, %d): %v, want %v", l, page, pages, got, want)
	}
}

// 14.1, 14.2: all pages must be there, and at least one.
func TestNewOfPages(t *testing.T) {
	for _, n := range []int{1, 2, 3, 8, 65} {
		l := api.Layout{Pages: n, Threads: 2}
		for page := -3; page <= n+3; page++ {
			for pages := -3; pages <= n+3; pages++ {
				want := page >= 0 && pages >= 1 && page+pages <= n
				newIs(t, l, span{page, large, pages, 1, 1}, want)
				goneIs(t, l, page, pages, want)
			}
		}
	}
	l := api.Layout{Pages: 4096, Threads: 64}
	for _, x := range []struct {
		page, pages int
		want        bool
	}{
		{0, 4096, true}, {0, 4097, false}, {1, 4095, true}, {1, 4096, false}, {4095, 1, true}, {4095, 2, false}, {4096, 1, false}, {4096, 0, false}, {4094, 2, true}, {4094, 3, false},
	} {
		newIs(t, l, span{x.page, large, x.pages, 1, 1}, x.want)
		goneIs(t, l, x.page, x.pages, x.want)
	}
}

// 14.1, 14.2: pages beyond all that there are, whatever their sum goes round to.
func TestNewOfFarPages(t *testing.T) {
	for _, l := range someLayouts() {
		for _, n := range far() {
			for _, other := range append(far(), 0, 1, 2, 3, l.Pages-1, l.Pages) {
				newIs(t, l, span{n, large, other, 1, 1}, false)
				newIs(t, l, span{other, large, n, 1, 1}, false)
				goneIs(t, l, n, other, false)
				goneIs(t, l, other, n, false)
			}
			for class := range large {
				newIs(t, l, span{n, class, pagesOf[class], 1, 0}, false)
				newIs(t, l, span{0, class, n, 1, 0}, false)
			}
		}
	}
}

// 14.1: a class's spans have its pages, those of Large any; they must just fit.
func TestNewOfClasses(t *testing.T) {
	for n := 1; n <= 9; n++ {
		l := api.Layout{Pages: n, Threads: 1}
		for class := -3; class <= large+3; class++ {
			for page := range n {
				for pages := -1; pages <= 10; pages++ {
					want := class >= 0 && class <= large && pages >= 1 && page+pages <= n
					if want && class < large {
						want = pages == pagesOf[class]
					}
					newIs(t, l, span{page, class, pages, 1, 0}, want)
				}
			}
		}
		for _, class := range append(far(), large+1, 255, 256, 256+large) {
			for pages := range n + 1 {
				newIs(t, l, span{0, class, pages, 1, 0}, false)
			}
		}
	}
}

// 14.1: cycles are from 1 to MaxGen.
func TestNewOfCycles(t *testing.T) {
	l := api.Layout{Pages: 8, Threads: 2}
	for class := range large + 1 {
		pages := max(1, pagesOf[class])
		for _, gen := range []int{1, 2, 3, 1000, 1<<31 - 1, 1 << 31} {
			newIs(t, l, span{1, class, pages, gen, 1}, true)
		}
		for _, gen := range append(far(), 0, 1<<31+1, 1<<31+2, 1<<61+1, 1<<60) {
			newIs(t, l, span{1, class, pages, gen, 1}, false)
		}
	}
}

// 14.1: what is allocated are slots that the class has.
func TestNewOfAllocs(t *testing.T) {
	l := api.Layout{Pages: 8, Threads: 2}
	for class := range large + 1 {
		pages, n := max(1, pagesOf[class]), slotsOf[class]
		for i := range 64 {
			newIs(t, l, span{2, class, pages, 1, 1 << i}, i < n)
			newIs(t, l, span{2, class, pages, 1, ones(i + 1)}, i < n)
			newIs(t, l, span{2, class, pages, 1, ones(n) | 1<<i}, i < n)
		}
		newIs(t, l, span{2, class, pages, 1, 0}, true)
		newIs(t, l, span{2, class, pages, 1, ones(n) - 1}, true)
		newIs(t, l, span{2, class, pages, 1, ones(n) + 1}, n == 64)
		newIs(t, l, span{2, class, pages, 1, math.MaxUint64}, n == 64)
		newIs(t, l, span{2, class, pages, 1, math.MaxUint64 - 1}, n == 64)
	}
	for pages := 1; pages <= 8; pages++ {
		newIs(t, l, span{0, large, pages, 1, 1}, true)
		newIs(t, l, span{0, large, pages, 1, 2}, false)
		newIs(t, l, span{0, large, pages, 1, 3}, false)
	}
}

// 14.1, 14.2: of layouts that may not be there is none.
func TestNewOfLayouts(t *testing.T) {
	for _, l := range noLayouts() {
		for _, page := range []int{-1, 0, 1, 7} {
			newIs(t, l, span{page, 0, 1, 1, 0}, false)
			newIs(t, l, span{page, 7, 3, 1, 0}, false)
			newIs(t, l, span{page, large, 1, 1, 0}, false)
			goneIs(t, l, page, 1, false)
		}
	}
	for pages := -1; pages <= 4098; pages++ {
		for _, threads := range []int{-1, 0, 1, 64, 65} {
			l := api.Layout{Pages: pages, Threads: threads}
			want := pages >= 1 && pages <= 4096 && threads >= 1 && threads <= 64
			newIs(t, l, span{0, 0, 1, 1, 0}, want)
			newIs(t, l, span{0, large, pages, 1, 1}, want)
			goneIs(t, l, 0, 1, want)
			goneIs(t, l, 0, pages, want)
		}
	}
}

// 14.1, 14.2: one that has not begun is not done, and has turned nothing.
func TestNewHasNotBegun(t *testing.T) {
	a := made(t, 8, 2)
	words := a.Store().Words()
	for range 3 {
		if mustLay(t, a, span{0, 0, 1, 1, 0}).Done() || mustLay(t, a, span{0, large, 8, 1, 1}).Done() || mustGone(t, a, 0, 1).Done() || mustGone(t, a, 0, 8).Done() {
			t.Error("it is done, and has not begun")
		}
	}
	if a.Store().Count() != 0 || a.Store().Last() != (api.Did{}) || !slices.Equal(a.Store().Words(), words) {
		t.Error("to be made, and to be asked, is an access")
	}
}

// 14.1, 14.2: each class, with the first pages, some, and the last ones: each step, in its order.
func TestEachClass(t *testing.T) {
	for _, l := range []api.Layout{{Pages: 3, Threads: 1}, {Pages: 8, Threads: 2}, {Pages: 70, Threads: 64}} {
		for class := range large {
			pages := pagesOf[class]
			for _, page := range []int{0, (l.Pages - pages) / 2, l.Pages - pages} {
				for i, alloc := range []uint64{0, 1, ones(slotsOf[class]) - 1, ones(slotsOf[class])} {
					a := made(t, l.Pages, l.Threads)
					laid(t, a, span{page, class, pages, []int{1, 2, 77, 1 << 31}[i], alloc})
					gone(t, a, page, pages)
				}
			}
		}
	}
}

// 14.1, 14.2: Large, of each number of pages, wherever they fit.
func TestLarge(t *testing.T) {
	for _, n := range []int{1, 2, 9} {
		a := made(t, n, 2)
		for pages := 1; pages <= n; pages++ {
			for page := 0; page+pages <= n; page++ {
				laid(t, a, span{page, large, pages, 1 + page, uint64(pages % 2)})
				gone(t, a, page, pages)
			}
		}
	}
}

// 14.1, 14.2: all pages of the greatest layout.
func TestGreatest(t *testing.T) {
	a := made(t, 4096, 64)
	l := a.Layout()
	x := span{0, large, 4096, 1 << 31, 1}
	lay, away := mustLay(t, a, x), mustGone(t, a, 0, 4096)
	steps := 0
	for _, p := range lays(l, x) {
		if d := lay.Step(a); d != p.did(0) || lay.Done() != (steps == 4099) {
			t.Fatalf("step %d: %v, want %v; Done %v", steps, d, p.did(0), lay.Done())
		}
		steps++
	}
	idle(t, a, lay, a)
	was := a.Store().Words()
	for _, p := range goes(l, 0, 4096) {
		if d := away.Step(a); d != p.did(was[p.at]) || away.Done() != (steps == 4100+4096) {
			t.Fatalf("step %d: %v, want %v; Done %v", steps, d, p.did(was[p.at]), away.Done())
		}
		steps++
	}
	idle(t, a, away, a)
	if a.Store().Count() != 4100+4097 {
		t.Errorf("%d accesses", a.Store().Count())
	}
}

// 14.1, 14.2: the puts are the same whatever stands there; no other word is asked, or counts.
func TestOverWhatever(t *testing.T) {
	for _, w := range strangeWords() {
		a := filled(t, 8, 2, w)
		laid(t, a, span{1, 7, 3, 5, 9})
		laid(t, a, span{4, large, 4, 1, 0})
		gone(t, a, 4, 4)
		gone(t, a, 0, 8)
	}
}

// 14.1: a lay over a span that is laid, over a part of it, and over one that is not at its end.
func TestLayOver(t *testing.T) {
	a := made(t, 8, 2)
	laid(t, a, span{1, 7, 3, 5, 9})
	laid(t, a, span{1, 9, 3, 6, 255})
	laid(t, a, span{2, 12, 2, 7, 3})
	laid(t, a, span{0, large, 8, 8, 1})
	first, second := span{3, 13, 3, 9, 2}, span{3, 11, 3, 10, 15}
	m := mustLay(t, a, first)
	puts := lays(a.Layout(), first)
	for _, p := range puts[:5] {
		step(t, a, m, p)
	}
	laid(t, a, second)
	all(t, a, m, puts[5:])
}

// 14.2: a gone of what is no span, of a part of one, of one and more, of several.
func TestGoneOfWhatever(t *testing.T) {
	a := made(t, 8, 2)
	gone(t, a, 0, 8)
	laid(t, a, span{0, 7, 3, 5, 9})
	laid(t, a, span{3, 12, 2, 5, 0})
	gone(t, a, 1, 1)
	gone(t, a, 2, 4)
	gone(t, a, 0, 3)
	gone(t, a, 0, 3)
}

// 14.1, 14.2: Done is told behind the last step, not ahead of it; to be asked turns nothing, and is no access.
func TestDone(t *testing.T) {
	for pages := 1; pages <= 8; pages++ {
		a := made(t, 8, 2)
		for _, x := range []struct {
			m    machine
			left int
		}{{mustLay(t, a, span{0, large, pages, 1, 0}), pages + 4}, {mustGone(t, a, 0, pages), pages + 1}} {
			for ; x.left > 0; x.left-- {
				for range 3 {
					if x.m.Done() {
						t.Fatalf("it is done, with %d steps left", x.left)
					}
				}
				count := a.Store().Count()
				x.m.Step(a)
				for range 3 {
					x.m.Done()
				}
				if a.Store().Count() != count+1 {
					t.Fatal("to be asked is an access")
				}
			}
			if !x.m.Done() {
				t.Error("it is not done")
			}
		}
	}
}

// Machines: one that is done stays so, and does nothing, whatever came behind it.
func TestDoneStaysDone(t *testing.T) {
	a := made(t, 8, 2)
	x := span{2, 7, 3, 4, 5}
	lay, away := mustLay(t, a, x), mustGone(t, a, 2, 3)
	all(t, a, lay, lays(a.Layout(), x))
	all(t, a, away, goes(a.Layout(), 2, 3))
	for range 3 {
		idle(t, a, lay, a)
		laid(t, a, span{2, large, 2, 5, 1})
		idle(t, a, away, a)
		idle(t, a, lay, made(t, 8, 2))
		idle(t, a, away, made(t, 8, 2))
		gone(t, a, 2, 2)
	}
}

// strange are arenas in which no machine of 8 pages and 2 threads has a step.
func strange(t *testing.T) []*arena.Arena {
	t.Helper()
	list := []*arena.Arena{nil, {}}
	for _, l := range []api.Layout{{Pages: 9, Threads: 2}, {Pages: 7, Threads: 2}, {Pages: 8, Threads: 1}, {Pages: 8, Threads: 3}, {Pages: 2, Threads: 8}, {Pages: 1, Threads: 1}, {Pages: 4096, Threads: 64}} {
		list = append(list, made(t, l.Pages, l.Threads), filled(t, l.Pages, l.Threads, 9))
	}
	return list
}

// Machines: ahead of each step, and behind the last, no arena, and one of another layout, is none; it goes on as if nothing had been.
func TestStrangeArenas(t *testing.T) {
	a := made(t, 8, 2)
	others := strange(t)
	x := span{2, 7, 3, 4, 5}
	for _, y := range []struct {
		m    machine
		puts []put
	}{{mustLay(t, a, x), lays(a.Layout(), x)}, {mustGone(t, a, 2, 3), goes(a.Layout(), 2, 3)}} {
		for _, p := range y.puts {
			for _, b := range others {
				idle(t, a, y.m, b)
			}
			step(t, a, y.m, p)
		}
		for _, b := range others {
			idle(t, a, y.m, b)
		}
		if !y.m.Done() {
			t.Error("it is not done")
		}
	}
}

// Machines: a step is done in the arena that is handed in, of the same layout; the other one stays.
func TestTwoArenas(t *testing.T) {
	a, b := made(t, 8, 2), filled(t, 8, 2, 5)
	x := span{2, 7, 3, 4, 5}
	lay, away := mustLay(t, a, x), mustGone(t, b, 2, 3)
	puts, back := lays(a.Layout(), x), goes(a.Layout(), 2, 3)
	for i, p := range puts {
		here, there := a, b
		if i%2 == 1 {
			here, there = b, a
		}
		words := there.Store().Words()
		step(t, here, lay, p)
		if !slices.Equal(there.Store().Words(), words) {
			t.Error("the other arena was turned")
		}
		if i < len(back) {
			step(t, there, away, back[i])
		}
	}
	idle(t, a, lay, b)
	idle(t, a, away, b)
}

// R6
func TestNilMachines(t *testing.T) {
	var lay *Lay
	var away *Gone
	for _, m := range []machine{lay, away} {
		for _, b := range append(strange(t), made(t, 8, 2), filled(t, 8, 2, 9)) {
			idle(t, b, m, b)
		}
		if m.Done() {
			t.Error("nil is done")
		}
	}
}

// R1: machines, and arenas, that no New made, do nothing.
func TestZeroMachines(t *testing.T) {
	for _, m := range []machine{&Lay{}, &Gone{}} {
		for _, b := range append(strange(t), made(t, 8, 2), filled(t, 8, 2, 9)) {
			idle(t, b, m, b)
		}
		if m.Done() {
			t.Error("it is done")
		}
	}
}

// R1: if somebody has laid a store over the arena's own that has no words, or ends ahead of those of pages, there is no step, and nothing is read; in a whole one again it goes on.
func TestArenaWithoutWords(t *testing.T) {
	x := span{2, 7, 3, 4, 5}
	for _, n := range []int{0, 1, 60, 96} {
		a := made(t, 8, 2)
		l := a.Layout()
		whole := *a.Store()
		lay, away := mustLay(t, a, x), mustGone(t, a, 2, 3)
		step(t, a, lay, lays(l, x)[0])
		step(t, a, away, goes(l, 2, 3)[0])
		*a.Store() = store.Store{}
		if n > 0 {
			*a.Store() = *store.New(n)
			a.Store().Put(0, 1)
		}
		idle(t, a, lay, a)
		idle(t, a, away, a)
		read(t, a, 2, api.Span{}, false)
		lists(t, a)
		*a.Store() = whole
		all(t, a, lay, lays(l, x)[1:])
		all(t, a, away, goes(l, 2, 3)[1:])
	}
}

// 14.1: the chapter's examples, of Base and of a lay's steps.
func TestExamples(t *testing.T) {
	if got := Base(7, 3); got != 775 {
		t.Errorf("Base(7, 3): %d", got)
	}
	a := made(t, 8, 2)
	m := mustLay(t, a, span{0, 7, 3, 1, 0})
	for range 7 {
		if m.Done() {
			t.Fatal("it is done ahead of seven steps")
		}
		m.Step(a)
	}
	if !m.Done() || a.Store().Count() != 7 {
		t.Errorf("behind seven steps: Done %v, %d accesses", m.Done(), a.Store().Count())
	}
}
