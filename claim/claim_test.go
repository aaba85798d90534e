package claim

import (
	"math"
	"slices"
	"testing"

	"dustpan/api"
	"dustpan/arena"
	"dustpan/stack"
	"dustpan/store"
)

// lastTag is the tag that 0 follows; lastGen the last cycle's number.
const (
	lastTag = 1<<32 - 1
	lastGen = 1 << 31
)

// made is a new arena of pages and threads, which must be there.
func made(t *testing.T, pages, threads int) *arena.Arena {
	t.Helper()
	a := arena.New(api.Setup{Pages: pages, Threads: threads})
	if a == nil {
		t.Fatalf("no arena of %d pages, %d threads", pages, threads)
	}
	return a
}

// filled is a new arena all of whose words but the heads differ: w, and one more each.
func filled(t *testing.T, pages, threads int, w uint64) *arena.Arena {
	t.Helper()
	a := made(t, pages, threads)
	for at := range a.Store().Len() {
		if at < 8 || at > 67 {
			a.Store().Put(at, w+uint64(at))
		}
	}
	return a
}

// mustClaim is a new claim, which must be there.
func mustClaim(t *testing.T, a *arena.Arena, head, gen int) *Claim {
	t.Helper()
	m := NewClaim(a.Layout(), head, gen)
	if m == nil {
		t.Fatalf("NewClaim(%v, %d, %d): nil", a.Layout(), head, gen)
	}
	return m
}

// headAt is where a head stands, as the chapter of the layout says; the others are where the words of a page do.
func headAt(class, full, parity int) int { return 8 + 4*class + 2*full + parity }

func wordAt(a *arena.Arena, page, which int) int { return 68 + 14*a.Layout().Threads + 5*page + which }

func stateAt(a *arena.Arena, page int) int { return wordAt(a, page, 0) }
func nextAt(a *arena.Arena, page int) int  { return wordAt(a, page, 2) }
func allocAt(a *arena.Arena, page int) int { return wordAt(a, page, 3) }
func markAt(a *arena.Arena, page int) int  { return wordAt(a, page, 4) }

// word is a head of tag and page, as the chapter of tags says; page -1: none.
func word(tag uint64, page int) uint64 { return tag<<32 + uint64(page+1) }

// state is that of cycle gen and of a phase, as the chapter of phases says.
func state(gen, phase int) uint64 { return uint64(8*gen + phase) }

// at is the word of that place; a copy of the store is asked, so that this is no access.
func at(a *arena.Arena, place int) uint64 {
	aside := *a.Store()
	w, _ := aside.Load(place)
	return w
}

// lay lets pages lie in a stack, the first one deepest, without turning any other word.
func lay(a *arena.Arena, head int, pages ...int) {
	for _, p := range pages {
		w := at(a, head)
		a.Store().Put(nextAt(a, p), w%(1<<32))
		a.Store().Put(head, word(w>>32, p))
	}
}

// span lets a state, and slots allocated and marked, stand in the words of page.
func span(a *arena.Arena, page int, state, alloc, mark uint64) {
	a.Store().Put(stateAt(a, page), state)
	a.Store().Put(allocAt(a, page), alloc)
	a.Store().Put(markAt(a, page), mark)
}

// stands fails unless just that stands in the words of page.
func stands(t *testing.T, a *arena.Arena, page int, state, alloc, mark uint64) {
	t.Helper()
	w, got, marked := at(a, stateAt(a, page)), at(a, allocAt(a, page)), at(a, markAt(a, page))
	if w != state || got != alloc || marked != mark {
		t.Errorf("page %d: KState %d, KAlloc %#x, KMark %#x, want %d, %#x, %#x", page, w, got, marked, state, alloc, mark)
	}
}

// lies fails unless just those pages lie there, from the top on.
func lies(t *testing.T, a *arena.Arena, head int, want ...int) {
	t.Helper()
	if got := stack.List(a, head); !slices.Equal(got, want) {
		t.Errorf("in stack %d there lie %v, want %v", head, got, want)
	}
}

// What a claim does next, as the chapter says.
const (
	loadHead = iota
	loadNext
	casHead
	loadState
	casHeld
	casHanded
	putHeld
	loadMark
	loadAlloc
	putAlloc
	putMark
	done
)

// todo is what a claim has to do, by the chapter's words: what it has loaded, and what comes next.
type todo struct {
	head, gen, next  int
	top, was         uint64
	page, below, had int
	alloc, mark      uint64
	popped, swept    int // how often it did so
}

// newTodo is that of a new claim.
func newTodo(head, gen int) todo { return todo{head: head, gen: gen, page: -1, had: -1} }

// step is what comes next in a, and goes on behind it.
func (x *todo) step(a *arena.Arena) api.Did {
	switch {
	case x.next < loadState:
		return x.pop(a)
	case x.next < loadMark:
		return x.claim(a)
	}
	return x.sweep(a)
}

// load, put and cas are what such an access does in a.
func load(a *arena.Arena, place int) api.Did {
	return api.Did{Kind: api.DLoad, At: place, Old: at(a, place), New: at(a, place)}
}

func put(a *arena.Arena, place int, w uint64) api.Did {
	return api.Did{Kind: api.DPut, At: place, Old: at(a, place), New: w}
}

func cas(a *arena.Arena, place int, old, w uint64) api.Did {
	if now := at(a, place); now != old {
		return api.Did{Kind: api.DLost, At: place, Old: now, New: now}
	}
	return api.Did{Kind: api.DCas, At: place, Old: old, New: w}
}

// pop is a step of the Pop, as its chapter says.
func (x *todo) pop(a *arena.Arena) (d api.Did) {
	switch x.next {
	case loadHead:
		d = load(a, x.head)
		x.top, x.page, x.next = d.Old, int(d.Old%(1<<32))-1, loadNext
		if x.page == -1 {
			x.next = done
		}
	case loadNext:
		d = load(a, nextAt(a, x.page))
		x.below, x.next = int(d.Old)-1, casHead
	case casHead:
		d = cas(a, x.head, x.top, word((x.top>>32+1)%(1<<32), x.below))
		x.next = loadHead
		if d.Kind == api.DCas {
			x.popped++
			x.next = loadState
		}
	}
	return d
}

// claim is a step with the state of the page.
func (x *todo) claim(a *arena.Arena) (d api.Did) {
	place := stateAt(a, x.page)
	switch x.next {
	case loadState:
		d = load(a, place)
		x.was, x.next = d.Old, loadHead
		switch {
		case x.gen > 1 && d.Old == state(x.gen-1, 1):
			x.next = casHeld
		case d.Old == state(x.gen, 4):
			x.next = casHanded
		case d.Old == state(x.gen, 5):
			x.next = putHeld
		}
	case casHeld:
		d = cas(a, place, x.was, state(x.gen, 2))
		x.next = loadMark
	case casHanded:
		d = cas(a, place, x.was, state(x.gen, 6))
		x.next = loadHead
	case putHeld:
		d = put(a, place, state(x.gen, 2))
		x.next, x.had = done, x.page
	}
	if d.Kind == api.DLost {
		x.next = loadState
	}
	return d
}

// sweep is a step of the Sweep, as its chapter says.
func (x *todo) sweep(a *arena.Arena) (d api.Did) {
	switch x.next {
	case loadMark:
		d = load(a, markAt(a, x.page))
		x.mark = d.Old
	case loadAlloc:
		d = load(a, allocAt(a, x.page))
		x.alloc = d.Old
	case putAlloc:
		d = put(a, allocAt(a, x.page), x.alloc&x.mark)
	case putMark:
		d = put(a, markAt(a, x.page), 0)
		x.swept++
		x.had = x.page
	}
	x.next++
	return d
}

// trace is a claim, and what the chapter says of it.
type trace struct {
	m *Claim
	todo
}

// newTrace is one of a new claim.
func newTrace(t *testing.T, a *arena.Arena, head, gen int) *trace {
	t.Helper()
	return &trace{mustClaim(t, a, head, gen), newTodo(head, gen)}
}

// tells fails unless Done and Page tell what they must just now; being asked is no access, and turns nothing.
func (x *trace) tells(t *testing.T, a *arena.Arena) {
	t.Helper()
	words, count, last := a.Store().Words(), a.Store().Count(), a.Store().Last()
	for range 2 {
		if got := x.m.Done(); got != (x.next == done) {
			t.Errorf("ahead of %d: Done %v", x.next, got)
		}
		if got := x.m.Page(); got != x.had {
			t.Errorf("ahead of %d: Page %d, want %d", x.next, got, x.had)
		}
	}
	if a.Store().Count() != count || a.Store().Last() != last || !slices.Equal(a.Store().Words(), words) {
		t.Error("to be asked is an access, or turns a word")
	}
}

// step fails unless the next step is the chapter's: one access, told as the store's Last, and nothing else turned.
func (x *trace) step(t *testing.T, a *arena.Arena) api.Did {
	t.Helper()
	x.tells(t, a)
	words, count, free := a.Store().Words(), a.Store().Count(), a.Runs().List()
	now := x.next
	want := x.todo.step(a)
	if got := x.m.Step(a); got != want {
		t.Fatalf("step %d: %v, want %v", now, got, want)
	}
	if got := a.Store().Last(); got != want || a.Store().Count() != count+1 {
		t.Errorf("Last %v, want %v; %d accesses", got, want, a.Store().Count()-count)
	}
	words[want.At] = want.New
	if !slices.Equal(a.Store().Words(), words) || !slices.Equal(a.Runs().List(), free) {
		t.Errorf("%v: another word, or the free runs, were turned", want)
	}
	x.tells(t, a)
	return want
}

// till does steps till the next one is that.
func (x *trace) till(t *testing.T, a *arena.Arena, next int) {
	t.Helper()
	for range 10000 {
		if x.next == next {
			return
		}
		x.step(t, a)
	}
	t.Fatalf("it does not come to %d", next)
}

// all does all steps that are left, and fails unless it does nothing any more behind them.
func (x *trace) all(t *testing.T, a *arena.Arena) {
	t.Helper()
	x.till(t, a, done)
	for range 3 {
		x.idle(t, a, a)
	}
}

// idle fails unless a step in b is none, and turns nothing there, nor in a.
func (x *trace) idle(t *testing.T, a, b *arena.Arena) {
	t.Helper()
	idle(t, x.m, a, b)
	x.tells(t, a)
}

// idle fails unless a step of m in b is none, and turns nothing there, nor in a.
func idle(t *testing.T, m *Claim, a, b *arena.Arena) {
	t.Helper()
	pair := []*arena.Arena{a, b}
	var words [2][]uint64
	var count [2]int
	var last [2]api.Did
	for i, c := range pair {
		words[i], count[i], last[i] = c.Store().Words(), c.Store().Count(), c.Store().Last()
	}
	if d := m.Step(b); d != (api.Did{}) {
		t.Errorf("a step that is none: %v", d)
	}
	for i, c := range pair {
		if !slices.Equal(c.Store().Words(), words[i]) || c.Store().Count() != count[i] || c.Store().Last() != last[i] {
			t.Error("a step that is none turned a word, or is an access")
		}
	}
}

// claimed does a whole claim, each step of which must be the chapter's, and fails unless it comes to that page.
func claimed(t *testing.T, a *arena.Arena, head, gen, want int) *trace {
	t.Helper()
	x := newTrace(t, a, head, gen)
	x.all(t, a)
	if got := x.m.Page(); got != want {
		t.Errorf("Page %d, want %d", got, want)
	}
	return x
}

// said does all steps that m has left, and fails unless they are just those.
func said(t *testing.T, a *arena.Arena, m *Claim, page int, want ...api.Did) {
	t.Helper()
	for i, d := range want {
		if m.Done() || m.Page() != -1 {
			t.Errorf("ahead of step %d: Done %v, Page %d", i, m.Done(), m.Page())
		}
		if got := m.Step(a); got != d || a.Store().Last() != d {
			t.Fatalf("step %d: %v, want %v", i, got, d)
		}
	}
	if !m.Done() || m.Page() != page {
		t.Errorf("behind the last step: Done %v, Page %d, want %d", m.Done(), m.Page(), page)
	}
	idle(t, m, a, a)
}

// far are ints that are no place of a word, and no cycle; some have the lowest bits of one that is.
func far() []int {
	return []int{
		-1, -2, -8, -64, -4096, math.MinInt32, -1<<32 + 8, -1 << 62, math.MinInt + 8, math.MinInt + 1, math.MinInt,
		1<<31 + 1, 1<<32 + 8, 1 << 61, 1<<61 + 2, 1<<62 + 8, math.MaxInt - 8, math.MaxInt - 1, math.MaxInt,
	}
}

func someLayouts() []api.Layout {
	return []api.Layout{{Pages: 1, Threads: 1}, {Pages: 8, Threads: 2}, {Pages: 2, Threads: 64}, {Pages: 70, Threads: 3}, {Pages: 4096, Threads: 64}}
}

// noLayouts may not be.
func noLayouts() []api.Layout {
	return []api.Layout{
		{}, {Pages: 8}, {Threads: 2}, {Pages: -1, Threads: 2}, {Pages: 8, Threads: -1}, {Pages: 4097, Threads: 2}, {Pages: 8, Threads: 65},
		{Pages: 1<<32 + 8, Threads: 2}, {Pages: 8, Threads: 1<<32 + 2}, {Pages: math.MaxInt, Threads: math.MaxInt}, {Pages: math.MinInt, Threads: math.MinInt},
		{Pages: math.MaxInt, Threads: 2}, {Pages: 8, Threads: math.MaxInt}, {Pages: math.MinInt, Threads: 2}, {Pages: 8, Threads: math.MinInt},
	}
}

// strangeWords are what a word may hold, whatever it is for.
func strangeWords() []uint64 {
	return []uint64{
		0, 1, 2, 3, 5, 6, 7, 8, 255, 256, 1<<16 + 1, 1<<31 - 1, 1 << 31, 1<<32 - 1, 1 << 32, 1<<32 + 1, 1<<34 + 1, 1<<34 + 9, 0x5555555555555555, 0xaaaaaaaaaaaaaaaa,
		1<<62 + 2, 1<<63 - 1, 1 << 63, 1<<63 + 1, math.MaxUint64 - 7, math.MaxUint64 - 6, math.MaxUint64 - 1, math.MaxUint64,
	}
}

// states are those of each phase, and of none, of cycles around gen and of far ones, and words that are no state.
func states(gen int) []uint64 {
	list := strangeWords()
	for _, g := range []int{gen - 2, gen - 1, gen, gen + 1, gen + 2, 0, 1, 2, lastGen - 1, lastGen, lastGen + 1, gen + 1<<31, gen + 1<<32, gen + 1<<60} {
		for phase := range 8 {
			if g >= 0 {
				list = append(list, state(g, phase))
			}
		}
	}
	slices.Sort(list)
	return slices.Compact(list)
}

// 16.1: of what heads there are claims: those from the first to the last, and no others.
func TestNewOfHeads(t *testing.T) {
	for _, l := range someLayouts() {
		for head := -100; head < 1000; head++ {
			if got, want := NewClaim(l, head, 2) != nil, head >= 8 && head <= 67; got != want {
				t.Errorf("NewClaim(%v, %d, 2): %v", l, head, got)
			}
		}
		for _, head := range far() {
			if NewClaim(l, head, 2) != nil {
				t.Errorf("of %v there is a head %d", l, head)
			}
		}
	}
	for class := range 15 {
		for i := range 4 {
			if head := headAt(class, i/2, i%2); NewClaim(api.Layout{Pages: 1, Threads: 1}, head, 1) == nil {
				t.Errorf("of head %d of class %d there is no claim", i, class)
			}
		}
	}
}

// 16.1: of what cycles there are claims: from 1 to MaxGen, and no others.
func TestNewOfCycles(t *testing.T) {
	for _, l := range someLayouts() {
		for _, head := range []int{8, 9, 40, 66, 67} {
			for _, gen := range []int{1, 2, 3, 8, 4096, 1 << 16, 1<<31 - 1, 1 << 31} {
				if NewClaim(l, head, gen) == nil {
					t.Errorf("NewClaim(%v, %d, %d): nil", l, head, gen)
				}
			}
			for _, gen := range append(far(), 0, 1<<31+2, 1<<32, 1<<32+1, 1<<32+2, 1<<61+1) {
				if NewClaim(l, head, gen) != nil {
					t.Errorf("NewClaim(%v, %d, %d): not nil", l, head, gen)
				}
			}
		}
	}
}

// 16.1: of layouts that may not be there is none.
func TestNewOfLayouts(t *testing.T) {
	for _, l := range noLayouts() {
		for head := -1; head < 100; head++ {
			if NewClaim(l, head, 1) != nil || NewClaim(l, head, 2) != nil {
				t.Errorf("of %v there is a head %d", l, head)
			}
		}
	}
	for pages := -1; pages <= 4098; pages++ {
		for _, threads := range []int{-1, 0, 1, 64, 65} {
			want := pages >= 1 && pages <= 4096 && threads >= 1 && threads <= 64
			if got := NewClaim(api.Layout{Pages: pages, Threads: threads}, 8, 1) != nil; got != want {
				t.Errorf("of %d pages, %d threads: %v", pages, threads, got)
			}
		}
	}
}

// 16.1: one that has not begun is not done, has no page, and has turned nothing, whatever stands there.
func TestNewHasNotBegun(t *testing.T) {
	a := made(t, 8, 2)
	span(a, 3, state(1, api.PIdle), 7, 5)
	lay(a, 8, 3)
	words, count, last := a.Store().Words(), a.Store().Count(), a.Store().Last()
	for head := 8; head <= 67; head++ {
		m := mustClaim(t, a, head, 2)
		if m.Done() || m.Page() != -1 {
			t.Errorf("it has not begun: Done %v, Page %d", m.Done(), m.Page())
		}
	}
	if a.Store().Count() != count || a.Store().Last() != last || !slices.Equal(a.Store().Words(), words) {
		t.Error("to be made, and to be asked, is an access")
	}
}

// 16.1: the chapter's example; of an empty stack there is one load, of each head, whatever its tag, and of each cycle.
func TestExample(t *testing.T) {
	for _, l := range []api.Layout{{Pages: 1, Threads: 1}, {Pages: 8, Threads: 2}, {Pages: 70, Threads: 64}} {
		for head := 8; head <= 67; head++ {
			for _, tag := range []uint64{0, 1, 7, 1 << 31, lastTag} {
				a := made(t, l.Pages, l.Threads)
				w := word(tag, -1)
				a.Store().Put(head, w)
				for _, gen := range []int{1, 2, lastGen} {
					said(t, a, mustClaim(t, a, head, gen), -1, api.Did{Kind: api.DLoad, At: head, Old: w, New: w})
					claimed(t, a, head, gen, -1)
				}
			}
		}
	}
}

// 16.1: a span that waits: it is popped, turned to PHeld, and swept.
func TestWaits(t *testing.T) {
	for _, gen := range []int{2, 3, 9, 1 << 16, lastGen - 1, lastGen} {
		a := made(t, 8, 2)
		head := headAt(3, 0, 1)
		span(a, 5, state(gen-1, api.PIdle), 7, 5)
		lay(a, head, 5)
		was, held := state(gen-1, api.PIdle), state(gen, api.PHeld)
		said(t, a, mustClaim(t, a, head, gen), 5,
			api.Did{Kind: api.DLoad, At: head, Old: 6, New: 6},
			api.Did{Kind: api.DLoad, At: nextAt(a, 5)},
			api.Did{Kind: api.DCas, At: head, Old: 6, New: word(1, -1)},
			api.Did{Kind: api.DLoad, At: stateAt(a, 5), Old: was, New: was},
			api.Did{Kind: api.DCas, At: stateAt(a, 5), Old: was, New: held},
			api.Did{Kind: api.DLoad, At: markAt(a, 5), Old: 5, New: 5},
			api.Did{Kind: api.DLoad, At: allocAt(a, 5), Old: 7, New: 7},
			api.Did{Kind: api.DPut, At: allocAt(a, 5), Old: 7, New: 5},
			api.Did{Kind: api.DPut, At: markAt(a, 5), Old: 5})
		stands(t, a, 5, held, 5, 0)
		lies(t, a, head)
	}
}

// 16.1: one that is PDone: a put of PHeld, and it is not swept again.
func TestDoneSpan(t *testing.T) {
	for _, gen := range []int{1, 2, 3, lastGen} {
		a := made(t, 8, 2)
		head := headAt(14, 1, 1)
		was, held := state(gen, api.PDone), state(gen, api.PHeld)
		span(a, 0, was, 7, 5)
		lay(a, head, 0)
		said(t, a, mustClaim(t, a, head, gen), 0,
			api.Did{Kind: api.DLoad, At: head, Old: 1, New: 1},
			api.Did{Kind: api.DLoad, At: nextAt(a, 0)},
			api.Did{Kind: api.DCas, At: head, Old: 1, New: word(1, -1)},
			api.Did{Kind: api.DLoad, At: stateAt(a, 0), Old: was, New: was},
			api.Did{Kind: api.DPut, At: stateAt(a, 0), Old: was, New: held})
		stands(t, a, 0, held, 7, 5)
		lies(t, a, head)
	}
}

// 16.1: one that a sweeper is at is left to it, and the next one is popped.
func TestSweepingSpan(t *testing.T) {
	for _, gen := range []int{1, 2, 3, lastGen} {
		a := made(t, 8, 2)
		head := headAt(0, 0, 0)
		was, handed := state(gen, api.PSweeping), state(gen, api.PHanded)
		span(a, 7, was, 7, 5)
		lay(a, head, 7)
		said(t, a, mustClaim(t, a, head, gen), -1,
			api.Did{Kind: api.DLoad, At: head, Old: 8, New: 8},
			api.Did{Kind: api.DLoad, At: nextAt(a, 7)},
			api.Did{Kind: api.DCas, At: head, Old: 8, New: word(1, -1)},
			api.Did{Kind: api.DLoad, At: stateAt(a, 7), Old: was, New: was},
			api.Did{Kind: api.DCas, At: stateAt(a, 7), Old: was, New: handed},
			api.Did{Kind: api.DLoad, At: head, Old: word(1, -1), New: word(1, -1)})
		stands(t, a, 7, handed, 7, 5)
		lies(t, a, head)
	}
}

// 16.1: each state of a page alone, and words that are none: three have a way of their own, of all others the stack goes on.
func TestEachState(t *testing.T) {
	head := headAt(9, 1, 0)
	for _, gen := range []int{1, 2, 3, 7, lastGen - 1, lastGen} {
		ways := 0
		for _, w := range states(gen) {
			a := made(t, 3, 1)
			span(a, 1, w, 29, 23)
			lay(a, head, 1)
			switch {
			case gen > 1 && w == state(gen-1, api.PIdle):
				claimed(t, a, head, gen, 1)
				stands(t, a, 1, state(gen, api.PHeld), 21, 0)
			case w == state(gen, api.PSweeping):
				claimed(t, a, head, gen, -1)
				stands(t, a, 1, state(gen, api.PHanded), 29, 23)
			case w == state(gen, api.PDone):
				claimed(t, a, head, gen, 1)
				stands(t, a, 1, state(gen, api.PHeld), 29, 23)
			default:
				said(t, a, mustClaim(t, a, head, gen), -1,
					api.Did{Kind: api.DLoad, At: head, Old: 2, New: 2},
					api.Did{Kind: api.DLoad, At: nextAt(a, 1)},
					api.Did{Kind: api.DCas, At: head, Old: 2, New: word(1, -1)},
					api.Did{Kind: api.DLoad, At: stateAt(a, 1), Old: w, New: w},
					api.Did{Kind: api.DLoad, At: head, Old: word(1, -1), New: word(1, -1)})
				stands(t, a, 1, w, 29, 23)
				ways--
			}
			ways++
			lies(t, a, head)
		}
		if want := min(gen+1, 3); ways != want {
			t.Errorf("cycle %d: %d states have a way of their own, want %d", gen, ways, want)
		}
	}
}

// 16.1: in the first cycle nothing waits, for there is none ahead of it.
func TestFirstCycle(t *testing.T) {
	for phase := range 8 {
		a := made(t, 3, 1)
		span(a, 1, uint64(phase), 29, 23)
		lay(a, 8, 1)
		claimed(t, a, 8, 1, -1)
		stands(t, a, 1, uint64(phase), 29, 23)
	}
}

// 16.1: what is swept, whatever the slots' words hold.
func TestEachPairOfWords(t *testing.T) {
	for _, alloc := range strangeWords() {
		for _, mark := range strangeWords() {
			a := made(t, 2, 1)
			span(a, 1, state(4, api.PIdle), alloc, mark)
			lay(a, 8, 1)
			claimed(t, a, 8, 5, 1)
			stands(t, a, 1, state(5, api.PHeld), alloc&mark, 0)
		}
	}
}

// 16.1: stacks of three, of each mixture of what may lie there: the first one from the top on that may be had is; all above it are off the stack, all below it lie there.
func TestStacksOfThree(t *testing.T) {
	const gen = 6
	kinds := []uint64{state(5, api.PIdle), state(6, api.PSweeping), state(6, api.PDone), state(6, api.PIdle), state(6, api.PHanded), 0, state(5, api.PHeld), 1 << 63}
	head := headAt(7, 0, 0)
	for i := range 512 {
		pick := []uint64{kinds[i%8], kinds[i/8%8], kinds[i/64]}
		a := made(t, 4, 1)
		lay(a, head, 2, 0, 3)
		var left []int
		had := -1
		for j, page := range []int{3, 0, 2} {
			span(a, page, pick[j], 29, 23)
			switch {
			case had != -1:
				left = append(left, page)
			case pick[j] == kinds[0], pick[j] == kinds[2]:
				had = page
			}
		}
		claimed(t, a, head, gen, had)
		lies(t, a, head, left...)
		for j, page := range []int{3, 0, 2} {
			switch {
			case page == had && pick[j] == kinds[0]:
				stands(t, a, page, state(gen, api.PHeld), 21, 0)
			case page == had:
				stands(t, a, page, state(gen, api.PHeld), 29, 23)
			case pick[j] == kinds[1] && !slices.Contains(left, page):
				stands(t, a, page, state(gen, api.PHanded), 29, 23)
			default:
				stands(t, a, page, pick[j], 29, 23)
			}
		}
	}
}

// 16.1, 16.2: the whole arena in one stack, in layouts from the least to the greatest: one claim a page, each has another one, till none is left.
func TestWholeArena(t *testing.T) {
	for _, l := range []api.Layout{{Pages: 1, Threads: 1}, {Pages: 2, Threads: 64}, {Pages: 70, Threads: 3}} {
		a := made(t, l.Pages, l.Threads)
		head := headAt(14, 0, 1)
		for page := range l.Pages {
			span(a, page, state(1, api.PIdle), 0xff, uint64(page))
			lay(a, head, page)
		}
		for page := l.Pages - 1; page >= 0; page-- {
			claimed(t, a, head, 2, page)
			stands(t, a, page, state(2, api.PHeld), uint64(page)&0xff, 0)
		}
		claimed(t, a, head, 2, -1)
	}
}

// 16.1: a stack as deep as the greatest arena, of which only the deepest page may be had: all others are gone through.
func TestDeepStack(t *testing.T) {
	a := made(t, 4096, 64)
	head := headAt(2, 1, 1)
	for i := range 4096 {
		page := (i*5 + 4095) % 4096
		span(a, page, state(3, 2+i%5), 29, 23)
		lay(a, head, page)
	}
	span(a, 4095, state(3, api.PIdle), 29, 23)
	m := mustClaim(t, a, head, 4)
	for n := 0; !m.Done(); n++ {
		if n > 4096*6 {
			t.Fatal("it does not end")
		}
		if i := a.Store().Count(); m.Step(a) != a.Store().Last() || a.Store().Count() != i+1 {
			t.Fatal("a step is not one access")
		}
	}
	lies(t, a, head)
	if m.Page() != 4095 {
		t.Errorf("Page %d", m.Page())
	}
	stands(t, a, 4095, state(4, api.PHeld), 21, 0)
}

// 16.1: a cas of the head that is lost: the Pop begins anew.
func TestHeadLost(t *testing.T) {
	for _, next := range []int{loadNext, casHead} {
		a := made(t, 8, 2)
		head := headAt(0, 1, 1)
		span(a, 2, state(3, api.PIdle), 7, 5)
		span(a, 6, state(4, api.PDone), 3, 1)
		lay(a, head, 2)
		x := newTrace(t, a, head, 4)
		x.till(t, a, next)
		a.Store().Put(head, word(1, 6))
		a.Store().Put(nextAt(a, 6), 3)
		x.till(t, a, casHead)
		if d := x.step(t, a); d.Kind != api.DLost || x.next != loadHead {
			t.Errorf("%v, and %d is next", d, x.next)
		}
		x.all(t, a)
		if x.m.Page() != 6 || x.popped != 1 {
			t.Errorf("Page %d, %d pops", x.m.Page(), x.popped)
		}
		lies(t, a, head, 2)
		stands(t, a, 2, state(3, api.PIdle), 7, 5)
	}
}

// 16.1: a cas to PHeld, or to PHanded, that is lost, whatever the state was turned to: it is loaded again, nothing is popped, and what it is now is gone by.
func TestStateLost(t *testing.T) {
	const gen = 4
	head := headAt(6, 0, 1)
	for _, begin := range []uint64{state(3, api.PIdle), state(4, api.PSweeping)} {
		for _, w := range states(gen) {
			a := made(t, 8, 2)
			span(a, 2, begin, 29, 23)
			lay(a, head, 2)
			x := newTrace(t, a, head, gen)
			x.till(t, a, loadState)
			x.step(t, a)
			a.Store().Put(stateAt(a, 2), w)
			d := x.step(t, a)
			if w == begin {
				continue
			}
			if d != (api.Did{Kind: api.DLost, At: stateAt(a, 2), Old: w, New: w}) {
				t.Errorf("%v, want a cas that is lost", d)
			}
			if got := x.step(t, a); got.Kind != api.DLoad || got.At != stateAt(a, 2) {
				t.Errorf("behind a cas that is lost: %v", got)
			}
			x.all(t, a)
			want := -1
			if w == state(3, api.PIdle) || w == state(4, api.PDone) {
				want = 2
			}
			if x.m.Page() != want || x.popped != 1 {
				t.Errorf("turned from %d to %d: Page %d, want %d; %d pops", begin, w, x.m.Page(), want, x.popped)
			}
		}
	}
}

// 16.1: a cas is lost again and again, as long as somebody is ahead.
func TestLostAgainAndAgain(t *testing.T) {
	a := made(t, 8, 2)
	span(a, 2, state(3, api.PIdle), 29, 23)
	lay(a, 8, 2)
	x := newTrace(t, a, 8, 4)
	x.till(t, a, loadState)
	for i := range 50 {
		x.step(t, a)
		was, now := state(3, api.PIdle), state(4, api.PSweeping)
		if i%2 == 1 {
			was, now = now, was
		}
		if at(a, stateAt(a, 2)) != was {
			t.Fatal("the state was turned by a cas that is lost")
		}
		a.Store().Put(stateAt(a, 2), now)
		if d := x.step(t, a); d.Kind != api.DLost || x.next != loadState {
			t.Fatalf("%v, and %d is next", d, x.next)
		}
	}
	x.all(t, a)
	stands(t, a, 2, state(4, api.PHeld), 21, 0)
}

// 16.1: the sweeper's way past a claim: the span is PSweeping when it is met, and PDone ahead of the cas, or there already.
func TestBesideSweeper(t *testing.T) {
	a := made(t, 8, 2)
	span(a, 5, state(2, api.PIdle), 7, 5)
	lay(a, 8, 5)
	x := newTrace(t, a, 8, 3)
	x.till(t, a, casHeld)
	span(a, 5, state(3, api.PSweeping), 7, 5)
	x.till(t, a, casHanded)
	span(a, 5, state(3, api.PDone), 5, 0)
	x.till(t, a, putHeld)
	x.all(t, a)
	if x.m.Page() != 5 || x.swept != 0 {
		t.Errorf("Page %d, swept %d times", x.m.Page(), x.swept)
	}
	stands(t, a, 5, state(3, api.PHeld), 5, 0)
}

// 16.1: PDone is put over, whatever somebody else has turned it to since.
func TestPutOverDone(t *testing.T) {
	for _, w := range states(3) {
		a := made(t, 8, 2)
		span(a, 5, state(3, api.PDone), 7, 5)
		lay(a, 8, 5)
		x := newTrace(t, a, 8, 3)
		x.till(t, a, putHeld)
		a.Store().Put(stateAt(a, 5), w)
		x.all(t, a)
		if x.m.Page() != 5 {
			t.Errorf("Page %d", x.m.Page())
		}
		stands(t, a, 5, state(3, api.PHeld), 7, 5)
	}
}

// 16.1: the same page met again, which lies below itself, or was pushed again meanwhile: it is gone by what it is then.
func TestSamePageAgain(t *testing.T) {
	a := made(t, 8, 2)
	span(a, 5, state(3, api.PHeld), 29, 23)
	lay(a, 8, 5)
	a.Store().Put(nextAt(a, 5), 6)
	x := newTrace(t, a, 8, 4)
	for range 50 {
		x.till(t, a, loadState)
		x.step(t, a)
	}
	if x.popped != 50 || x.m.Done() {
		t.Errorf("%d pops, Done %v", x.popped, x.m.Done())
	}
	a.Store().Put(stateAt(a, 5), state(3, api.PIdle))
	x.all(t, a)
	if x.m.Page() != 5 {
		t.Errorf("Page %d", x.m.Page())
	}
	lies(t, a, 8, 5, 5, 5, 5, 5, 5, 5, 5)
	stands(t, a, 5, state(4, api.PHeld), 21, 0)
}

// 16.1: a page that was handed, and pushed again when it waits anew, is had.
func TestHandedPageAgain(t *testing.T) {
	a := made(t, 8, 2)
	span(a, 5, state(4, api.PSweeping), 29, 23)
	lay(a, 8, 5)
	x := newTrace(t, a, 8, 4)
	x.till(t, a, casHanded)
	x.step(t, a)
	span(a, 5, state(4, api.PDone), 21, 0)
	lay(a, 8, 5)
	x.all(t, a)
	if x.m.Page() != 5 || x.popped != 2 {
		t.Errorf("Page %d, %d pops", x.m.Page(), x.popped)
	}
}

// 16.1: between the last turn of the Pop and the load of the state, and at each step behind it, the page is off the stack, and is not told.
func TestPageIsToldLast(t *testing.T) {
	a := made(t, 8, 2)
	span(a, 5, state(3, api.PIdle), 29, 23)
	lay(a, 8, 5)
	x := newTrace(t, a, 8, 4)
	x.till(t, a, loadState)
	lies(t, a, 8)
	stands(t, a, 5, state(3, api.PIdle), 29, 23)
	for x.next != done {
		if x.m.Page() != -1 || x.m.Done() {
			t.Errorf("ahead of %d: Page %d, Done %v", x.next, x.m.Page(), x.m.Done())
		}
		x.step(t, a)
	}
	if x.m.Page() != 5 || !x.m.Done() {
		t.Errorf("behind the last step: Page %d, Done %v", x.m.Page(), x.m.Done())
	}
}

// 16.1: the tag goes round, and nothing of it spills into the page.
func TestLastTag(t *testing.T) {
	a := made(t, 8, 2)
	for _, page := range []int{2, 6, 4} {
		span(a, page, state(3, api.PIdle), 7, 5)
		lay(a, 8, page)
	}
	a.Store().Put(8, word(lastTag-1, 4))
	for _, page := range []int{4, 6, 2} {
		claimed(t, a, 8, 4, page)
	}
	if got := at(a, 8); got != word(1, -1) {
		t.Errorf("the head: %#x", got)
	}
}

// 16.1: other stacks, other pages and all other words stay, and do not count, whatever they hold.
func TestOtherWords(t *testing.T) {
	for _, w := range strangeWords() {
		for head := 8; head <= 67; head++ {
			a := filled(t, 8, 2, w)
			for h := 8; h <= 67; h++ {
				lay(a, h, h%8)
			}
			page := head % 8
			a.Store().Put(nextAt(a, page), 0)
			span(a, page, state(3, api.PIdle), 29, 23)
			want := a.Store().Words()
			claimed(t, a, head, 4, page)
			want[head], want[stateAt(a, page)], want[allocAt(a, page)], want[markAt(a, page)] = word(1, -1), state(4, api.PHeld), 21, 0
			if !slices.Equal(a.Store().Words(), want) {
				t.Errorf("page %d: another word was turned", page)
			}
		}
	}
}

// 16.1: the pages of layouts from the least to the greatest.
func TestEachLayout(t *testing.T) {
	for _, l := range someLayouts() {
		for _, page := range []int{0, min(1, l.Pages-1), l.Pages / 2, max(0, l.Pages-2), l.Pages - 1} {
			for _, w := range []uint64{state(1, api.PIdle), state(2, api.PSweeping), state(2, api.PDone)} {
				a := made(t, l.Pages, l.Threads)
				span(a, page, w, 29, 23)
				lay(a, 67, page)
				want := page
				if w == state(2, api.PSweeping) {
					want = -1
				}
				claimed(t, a, 67, 2, want)
			}
		}
	}
}

// 16.1: ahead of each step somebody else turns a word that the claim asks: it goes by what it has loaded, and by nothing else.
func TestTurnedBetweenSteps(t *testing.T) {
	heads := []uint64{0, 3, 4, word(1, 2), word(1, 3), word(2, -1), word(lastTag, 2)}
	for begun := range 12 {
		for which := range 5 {
			words := states(4)
			switch which {
			case 0:
				words = heads
			case 1:
				words = []uint64{0, 3, 4, 5}
			}
			for _, w := range words {
				a := made(t, 8, 2)
				span(a, 2, state(3, api.PIdle), 29, 23)
				span(a, 3, state(4, api.PDone), 1, 0)
				lay(a, 8, 3, 2)
				x := newTrace(t, a, 8, 4)
				for i := 0; i < begun && x.next != done; i++ {
					x.step(t, a)
				}
				a.Store().Put([]int{8, nextAt(a, 2), stateAt(a, 2), allocAt(a, 2), markAt(a, 2)}[which], w)
				x.tells(t, a)
				x.all(t, a)
			}
		}
	}
}

// Machines: a word that names no page that is there, or a cycle that may not be: each step ends, and none panics.
func TestWordsThatNameNone(t *testing.T) {
	for _, top := range append(strangeWords(), word(0, 8), word(3, 9), word(1, 4095), word(1, 4096)) {
		for _, next := range append(strangeWords(), 8, 9, 4096, 4097) {
			for _, w := range []uint64{0, state(1, api.PIdle), state(2, api.PSweeping), state(2, api.PDone), state(lastGen+1, api.PIdle), 1<<63 + 5, math.MaxUint64} {
				a := made(t, 8, 2)
				a.Store().Put(8, top)
				for page := range 8 {
					span(a, page, w, 29, 23)
					a.Store().Put(nextAt(a, page), next)
				}
				m := mustClaim(t, a, 8, 2)
				for i := 0; i < 60 && !m.Done(); i++ {
					m.Step(a)
					m.Page()
				}
			}
		}
	}
}

// 16.1, machines: one that is done stays so, and does nothing, whatever comes behind it; its page stays told.
func TestDoneStaysDone(t *testing.T) {
	for _, w := range []uint64{state(3, api.PIdle), state(4, api.PDone), state(4, api.PSweeping)} {
		a := made(t, 8, 2)
		span(a, 2, w, 7, 5)
		lay(a, 8, 2)
		x := newTrace(t, a, 8, 4)
		x.all(t, a)
		for i := range 3 {
			span(a, 2, w, 15, 8)
			span(a, 3+i, state(3, api.PIdle), 15, 8)
			lay(a, 8, 3+i)
			x.idle(t, a, a)
			x.idle(t, a, made(t, 8, 2))
			lies(t, a, 8, 3+i)
			claimed(t, a, 8, 4, 3+i)
			x.idle(t, a, a)
		}
	}
}

// strange are arenas in which no claim of 8 pages and 2 threads has a step.
func strange(t *testing.T) []*arena.Arena {
	t.Helper()
	list := []*arena.Arena{nil, {}}
	for _, l := range []api.Layout{{Pages: 9, Threads: 2}, {Pages: 7, Threads: 2}, {Pages: 8, Threads: 1}, {Pages: 8, Threads: 3}, {Pages: 2, Threads: 8}, {Pages: 1, Threads: 1}, {Pages: 4096, Threads: 64}} {
		b := filled(t, l.Pages, l.Threads, 9)
		span(b, 0, state(3, api.PIdle), 7, 5)
		lay(b, 8, 0)
		list = append(list, made(t, l.Pages, l.Threads), b)
	}
	return list
}

// ways lets pages lie in stack 8 so that a claim of cycle 4 goes each way: any other, one that is handed, and one that waits or is done.
func ways(t *testing.T, last uint64) *arena.Arena {
	t.Helper()
	a := made(t, 8, 2)
	for page, w := range []uint64{last, state(4, api.PSweeping), state(4, api.PIdle)} {
		span(a, page, w, 29, 23)
		lay(a, 8, page)
	}
	return a
}

// 16.1, machines: ahead of each step, and behind the last, no arena, and one of another layout, is none; it goes on as if nothing had been.
func TestStrangeArenas(t *testing.T) {
	others := strange(t)
	for _, last := range []uint64{state(3, api.PIdle), state(4, api.PDone)} {
		a := ways(t, last)
		x := newTrace(t, a, 8, 4)
		for x.next != done {
			for _, b := range others {
				x.idle(t, a, b)
			}
			x.step(t, a)
		}
		for _, b := range others {
			x.idle(t, a, b)
		}
		if x.m.Page() != 0 || x.popped != 3 {
			t.Errorf("Page %d, %d pops", x.m.Page(), x.popped)
		}
	}
}

// Machines: a step is done in the arena that is handed in, of the same layout; the other one stays.
func TestTwoArenas(t *testing.T) {
	for turns := range 1 << 12 {
		a, b := ways(t, state(3, api.PIdle)), ways(t, state(4, api.PDone))
		x := newTrace(t, a, 8, 4)
		for i := 0; x.next != done; i++ {
			here, there := a, b
			if i < 12 && turns>>i&1 == 1 {
				here, there = b, a
			}
			words, count := there.Store().Words(), there.Store().Count()
			x.step(t, here)
			if !slices.Equal(there.Store().Words(), words) || there.Store().Count() != count {
				t.Fatal("the other arena was turned")
			}
		}
		x.idle(t, a, b)
		x.idle(t, b, a)
	}
}

// Machines: one that was laid aside, as a value, goes on by itself.
func TestTwoOfOne(t *testing.T) {
	for begun := range 20 {
		a, b := ways(t, state(3, api.PIdle)), ways(t, state(3, api.PIdle))
		x, y := newTrace(t, a, 8, 4), newTrace(t, b, 8, 4)
		for i := 0; i < begun && x.next != done; i++ {
			x.step(t, a)
			y.step(t, b)
		}
		aside := *x.m
		z := &trace{&aside, x.todo}
		x.all(t, a)
		z.all(t, b)
		if aside.Page() != 0 || !slices.Equal(a.Store().Words(), b.Store().Words()) {
			t.Errorf("behind %d steps: Page %d", begun, aside.Page())
		}
	}
}

// R6
func TestNilMachines(t *testing.T) {
	var m *Claim
	for _, b := range append(strange(t), made(t, 8, 2), ways(t, state(3, api.PIdle))) {
		idle(t, m, b, b)
	}
	if m.Done() || m.Page() != 0 {
		t.Errorf("nil: Done %v, Page %d", m.Done(), m.Page())
	}
}

// R1: a machine, and an arena, that no New made, do nothing.
func TestZeroMachines(t *testing.T) {
	m := &Claim{}
	for _, b := range append(strange(t), made(t, 8, 2), ways(t, state(3, api.PIdle))) {
		idle(t, m, b, b)
	}
	if m.Done() || m.Page() != -1 {
		t.Errorf("Done %v, Page %d", m.Done(), m.Page())
	}
}

// R1: if somebody has laid a store over the arena's own that has no words, or ends ahead of the layout's, there is no step; in a whole one again it goes on.
func TestArenaWithoutWords(t *testing.T) {
	for begun := range 20 {
		for _, n := range []int{0, 1, 8, 9, 60, 68, 96, 100, 145} {
			a := ways(t, state(3, api.PIdle))
			x := newTrace(t, a, 8, 4)
			for i := 0; i < begun && x.next != done; i++ {
				x.step(t, a)
			}
			whole := *a.Store()
			*a.Store() = store.Store{}
			if n > 0 {
				*a.Store() = *store.New(n)
				a.Store().Put(0, 1)
			}
			x.idle(t, a, a)
			*a.Store() = whole
			x.all(t, a)
			stands(t, a, 0, state(4, api.PHeld), 21, 0)
		}
	}
}
