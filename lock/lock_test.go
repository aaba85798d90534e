package lock

import (
	"math"
	"slices"
	"testing"

	"dustpan/api"
	"dustpan/arena"
	"dustpan/store"
)

// machine is a take, or a leave.
type machine interface {
	Step(a *arena.Arena) api.Did
	Done() bool
}

// lockAt is where the lock stands, as the chapter of the layout says.
const lockAt = 2

// made is a new arena of pages and threads, which must be there.
func made(t *testing.T, pages, threads int) *arena.Arena {
	t.Helper()
	a := arena.New(api.Setup{Pages: pages, Threads: threads})
	if a == nil {
		t.Fatalf("no arena of %d pages, %d threads", pages, threads)
	}
	return a
}

// mustTake is a new take, which must be there.
func mustTake(t *testing.T, a *arena.Arena, thread int) *Take {
	t.Helper()
	m := NewTake(a.Layout(), thread)
	if m == nil {
		t.Fatalf("NewTake(%v, %d): nil", a.Layout(), thread)
	}
	return m
}

// mustLeave is a new leave, which must be there.
func mustLeave(t *testing.T, a *arena.Arena) *Leave {
	t.Helper()
	m := NewLeave(a.Layout())
	if m == nil {
		t.Fatalf("NewLeave(%v): nil", a.Layout())
	}
	return m
}

// wins is what a take of a thread does that finds nobody.
func wins(thread int) api.Did {
	return api.Did{Kind: api.DCas, At: lockAt, Old: 0, New: uint64(thread) + 1}
}

// lost is what a take does that finds w.
func lost(w uint64) api.Did {
	return api.Did{Kind: api.DLost, At: lockAt, Old: w, New: w}
}

// leaves is what a leave does that finds w.
func leaves(w uint64) api.Did {
	return api.Did{Kind: api.DPut, At: lockAt, Old: w, New: 0}
}

// steps fails unless the next steps of m are just those: one access each, told as the store's Last, and nothing else turned.
func steps(t *testing.T, a *arena.Arena, m machine, want ...api.Did) {
	t.Helper()
	for i, d := range want {
		if m.Done() {
			t.Fatalf("step %d: it is done, want %v", i, d)
		}
		words, count, free := a.Store().Words(), a.Store().Count(), a.Runs().List()
		if got := m.Step(a); got != d {
			t.Fatalf("step %d: %v, want %v", i, got, d)
		}
		if got := a.Store().Last(); got != d || a.Store().Count() != count+1 {
			t.Errorf("step %d: Last %v, want %v; %d accesses", i, got, d, a.Store().Count()-count)
		}
		words[d.At] = d.New
		if !slices.Equal(a.Store().Words(), words) || !slices.Equal(a.Runs().List(), free) {
			t.Errorf("step %d, %v: another word, or the free runs, were turned", i, d)
		}
	}
}

// goesOn fails unless the next steps of m are just those, and it is not done behind any of them.
func goesOn(t *testing.T, a *arena.Arena, m machine, want ...api.Did) {
	t.Helper()
	for _, d := range want {
		steps(t, a, m, d)
		if m.Done() {
			t.Fatalf("%v, and it is done", d)
		}
	}
}

// all fails unless the steps that m has left are just those, and then it is done, and does nothing any more.
func all(t *testing.T, a *arena.Arena, m machine, want ...api.Did) {
	t.Helper()
	steps(t, a, m, want...)
	if !m.Done() {
		t.Fatal("it is not done")
	}
	for range 3 {
		idle(t, a, m, a)
	}
}

// idle fails unless a step of m in b is none, and turns nothing there, nor in a.
func idle(t *testing.T, a *arena.Arena, m machine, b *arena.Arena) {
	t.Helper()
	done := m.Done()
	both := []*arena.Arena{a, b}
	var words [2][]uint64
	var count [2]int
	var last [2]api.Did
	for i, c := range both {
		words[i], count[i], last[i] = c.Store().Words(), c.Store().Count(), c.Store().Last()
	}
	if d := m.Step(b); d != (api.Did{}) {
		t.Errorf("a step that is none: %v", d)
	}
	for i, c := range both {
		if !slices.Equal(c.Store().Words(), words[i]) || c.Store().Count() != count[i] || c.Store().Last() != last[i] {
			t.Error("a step that is none turned a word, or is an access")
		}
	}
	if m.Done() != done {
		t.Errorf("a step that is none: Done %v, was %v", m.Done(), done)
	}
}

// held fails unless Held tells want; being asked is no access, and turns nothing.
func held(t *testing.T, a *arena.Arena, want int) {
	t.Helper()
	words, count, last := a.Store().Words(), a.Store().Count(), a.Store().Last()
	for range 2 {
		if got := Held(a); got != want {
			t.Errorf("Held: %d, want %d", got, want)
		}
	}
	if a.Store().Count() != count || a.Store().Last() != last || !slices.Equal(a.Store().Words(), words) {
		t.Error("Held is an access, or turned a word")
	}
}

// far are numbers of no thread; some have the lowest bits of one that is.
func far() []int {
	return []int{
		-1, -2, -3, -63, -64, -65, -256, math.MinInt32, -1 << 32, -1<<32 + 1, -1 << 62, math.MinInt + 1, math.MinInt,
		64, 65, 128, 256, 257, 1 << 16, 1 << 31, 1 << 32, 1<<32 + 1, 1 << 62, 1<<62 + 1, math.MaxInt - 1, math.MaxInt,
	}
}

func someLayouts() []api.Layout {
	return []api.Layout{{Pages: 1, Threads: 1}, {Pages: 8, Threads: 2}, {Pages: 2, Threads: 64}, {Pages: 70, Threads: 3}, {Pages: 4096, Threads: 64}}
}

// noLayouts may not be.
func noLayouts() []api.Layout {
	return []api.Layout{
		{}, {Pages: 8}, {Threads: 2}, {Pages: -1, Threads: 2}, {Pages: 8, Threads: -1}, {Pages: 4097, Threads: 2}, {Pages: 8, Threads: 65},
		{Pages: 1<<32 + 8, Threads: 2}, {Pages: 8, Threads: 1<<32 + 2}, {Pages: math.MaxInt, Threads: math.MaxInt}, {Pages: math.MinInt, Threads: math.MinInt},
		{Pages: math.MaxInt, Threads: 2}, {Pages: 8, Threads: math.MaxInt}, {Pages: math.MinInt, Threads: 2}, {Pages: 8, Threads: math.MinInt},
	}
}

// strangeWords are what WLock may hold besides 0 and a thread that is there, where there are 3.
func strangeWords() []uint64 {
	return []uint64{
		4, 5, 64, 65, 66, 255, 256, 257, 1 << 16, 1 << 31, 1<<31 + 1, 1<<32 - 1, 1 << 32, 1<<32 + 1, 1<<32 + 3,
		1<<62 + 2, 1<<63 - 1, 1 << 63, 1<<63 + 1, 1<<63 + 3, math.MaxUint64 - 1, math.MaxUint64,
	}
}

// 13.1: of what threads there are takes: those from the first to the last, and no others.
func TestNewOfThreads(t *testing.T) {
	for _, l := range someLayouts() {
		for thread := -100; thread < 300; thread++ {
			want := thread >= 0 && thread < l.Threads
			if got := NewTake(l, thread) != nil; got != want {
				t.Errorf("NewTake(%v, %d): %v", l, thread, got)
			}
		}
		for _, thread := range append(far(), l.Threads) {
			if NewTake(l, thread) != nil {
				t.Errorf("NewTake(%v, %d): not nil", l, thread)
			}
		}
		if NewLeave(l) == nil {
			t.Errorf("NewLeave(%v): nil", l)
		}
	}
}

// 13.1: of every number of threads the last one takes, and one more does not.
func TestNewOfEachNumberOfThreads(t *testing.T) {
	for threads := 1; threads <= 64; threads++ {
		l := api.Layout{Pages: 5, Threads: threads}
		for thread := -1; thread <= 64; thread++ {
			if got, want := NewTake(l, thread) != nil, thread >= 0 && thread < threads; got != want {
				t.Errorf("NewTake(%v, %d): %v", l, thread, got)
			}
		}
	}
}

// 13.1: of layouts that may not be there is none.
func TestNewOfLayouts(t *testing.T) {
	for _, l := range noLayouts() {
		for thread := -1; thread <= 65; thread++ {
			if NewTake(l, thread) != nil {
				t.Errorf("NewTake(%v, %d): not nil", l, thread)
			}
		}
		if NewLeave(l) != nil {
			t.Errorf("NewLeave(%v): not nil", l)
		}
	}
	for pages := -1; pages <= 4097; pages++ {
		for _, threads := range []int{0, 1, 64, 65} {
			l := api.Layout{Pages: pages, Threads: threads}
			want := pages >= 1 && pages <= 4096 && threads >= 1 && threads <= 64
			if NewTake(l, 0) != nil != want || NewLeave(l) != nil != want {
				t.Errorf("of %v there is a take, or a leave: want %v", l, want)
			}
		}
	}
}

// 13.1: one that has not begun is not done, and has turned nothing.
func TestNewHasNotBegun(t *testing.T) {
	a := made(t, 8, 2)
	for range 3 {
		if mustTake(t, a, 1).Done() || mustLeave(t, a).Done() {
			t.Error("it is done, and has not begun")
		}
	}
	if a.Store().Count() != 0 || a.Store().Last() != (api.Did{}) {
		t.Error("to be made, and to be asked, is an access")
	}
	held(t, a, -1)
}

// 13.1, 13.2: each thread, from the first to the last, takes it, has it, and leaves it.
func TestEachThread(t *testing.T) {
	for _, l := range someLayouts() {
		a := made(t, l.Pages, l.Threads)
		for thread := range l.Threads {
			held(t, a, -1)
			all(t, a, mustTake(t, a, thread), wins(thread))
			held(t, a, thread)
			all(t, a, mustLeave(t, a), leaves(uint64(thread)+1))
		}
		held(t, a, -1)
	}
}

// 13.1: a take is lost while another one has it, as often as it is tried, and whoever that is.
func TestTakeLost(t *testing.T) {
	for _, has := range []int{0, 1, 62, 63} {
		a := made(t, 2, 64)
		all(t, a, mustTake(t, a, has), wins(has))
		w := uint64(has) + 1
		for _, thread := range []int{0, 1, 31, 62, 63} {
			// One who has it and takes it again is lost, too.
			m := mustTake(t, a, thread)
			for range 5 {
				goesOn(t, a, m, lost(w))
				held(t, a, has)
			}
		}
	}
}

// 13.1: a take is lost, and lost, and wins as soon as nobody has it; nothing of those lost stays.
func TestTakeLostTillItWins(t *testing.T) {
	for _, often := range []int{1, 2, 3, 100} {
		a := made(t, 8, 3)
		all(t, a, mustTake(t, a, 2), wins(2))
		m := mustTake(t, a, 0)
		for range often {
			goesOn(t, a, m, lost(3))
		}
		all(t, a, mustLeave(t, a), leaves(3))
		if m.Done() {
			t.Fatal("a take that was lost is done ahead of the one that wins")
		}
		held(t, a, -1)
		all(t, a, m, wins(0))
		held(t, a, 0)
	}
}

// 13.1: a take may lose to one after the other.
func TestTakeLostToOneAfterTheOther(t *testing.T) {
	a := made(t, 8, 64)
	m := mustTake(t, a, 63)
	for thread := range 63 {
		w := uint64(thread) + 1
		all(t, a, mustTake(t, a, thread), wins(thread))
		goesOn(t, a, m, lost(w), lost(w))
		all(t, a, mustLeave(t, a), leaves(w))
	}
	all(t, a, m, wins(63))
	held(t, a, 63)
}

// 13.1: of two that wait the one that steps first behind the leave has it.
func TestTwoWait(t *testing.T) {
	for _, order := range [][2]int{{0, 1}, {1, 0}} {
		a := made(t, 8, 3)
		all(t, a, mustTake(t, a, 2), wins(2))
		waits := []*Take{mustTake(t, a, 0), mustTake(t, a, 1)}
		goesOn(t, a, waits[0], lost(3))
		goesOn(t, a, waits[1], lost(3))
		all(t, a, mustLeave(t, a), leaves(3))
		first, second := order[0], order[1]
		all(t, a, waits[first], wins(first))
		goesOn(t, a, waits[second], lost(uint64(first)+1))
		held(t, a, first)
		all(t, a, mustLeave(t, a), leaves(uint64(first)+1))
		all(t, a, waits[second], wins(second))
		held(t, a, second)
	}
}

// 13.1: two takes of one thread, and one of them behind the other's end, are told apart by what stands there alone.
func TestTwoTakesOfOneThread(t *testing.T) {
	a := made(t, 8, 3)
	first, second := mustTake(t, a, 1), mustTake(t, a, 1)
	all(t, a, first, wins(1))
	goesOn(t, a, second, lost(2))
	all(t, a, mustLeave(t, a), leaves(2))
	idle(t, a, first, a)
	held(t, a, -1)
	all(t, a, second, wins(1))
	held(t, a, 1)
}

// 13.1: a leave of a lock that nobody has is an access, and is done, all the same.
func TestLeaveOfNone(t *testing.T) {
	a := made(t, 8, 3)
	all(t, a, mustLeave(t, a), leaves(0))
	all(t, a, mustLeave(t, a), leaves(0))
	held(t, a, -1)
	all(t, a, mustTake(t, a, 0), wins(0))
	held(t, a, 0)
}

// 13.1: a leave that was made while another one had it puts 0 over what stands there at its step.
func TestLeaveGoesByItsStep(t *testing.T) {
	a := made(t, 8, 3)
	all(t, a, mustTake(t, a, 0), wins(0))
	m := mustLeave(t, a)
	all(t, a, mustLeave(t, a), leaves(1))
	all(t, a, mustTake(t, a, 2), wins(2))
	all(t, a, m, leaves(3))
	held(t, a, -1)
}

// 13.1, machines: whatever WLock holds, a take of what is not 0 is lost, and a leave puts 0.
func TestStrangeWords(t *testing.T) {
	for _, w := range append(strangeWords(), 1, 2, 3) {
		a := made(t, 8, 3)
		a.Store().Put(lockAt, w)
		m := mustTake(t, a, 2)
		goesOn(t, a, m, lost(w), lost(w))
		all(t, a, mustLeave(t, a), leaves(w))
		all(t, a, m, wins(2))
	}
}

// 13.1: no other word is asked, and none counts, whatever it holds.
func TestOtherWords(t *testing.T) {
	for _, w := range []uint64{0, 1, 3, 1 << 32, math.MaxUint64} {
		a := made(t, 8, 3)
		for at := range a.Store().Len() {
			if at != lockAt {
				a.Store().Put(at, w)
			}
		}
		held(t, a, -1)
		all(t, a, mustTake(t, a, 1), wins(1))
		held(t, a, 1)
		goesOn(t, a, mustTake(t, a, 0), lost(2))
		all(t, a, mustLeave(t, a), leaves(2))
		held(t, a, -1)
	}
}

// 13.1: Done is told behind the last step, not ahead of it; to be asked turns nothing, and is no access.
func TestDone(t *testing.T) {
	a := made(t, 8, 2)
	for i, m := range []machine{mustTake(t, a, 1), mustLeave(t, a)} {
		for range 3 {
			if m.Done() {
				t.Fatal("it is done ahead of its end")
			}
		}
		m.Step(a)
		for range 3 {
			if !m.Done() {
				t.Error("it is not done")
			}
		}
		if a.Store().Count() != i+1 {
			t.Errorf("%d accesses, want %d", a.Store().Count(), i+1)
		}
	}
}

// 13.1, machines: one that is done stays so, and does nothing, whoever has the lock then.
func TestDoneStaysDone(t *testing.T) {
	a := made(t, 8, 2)
	take, leave := mustTake(t, a, 0), mustLeave(t, a)
	all(t, a, take, wins(0))
	all(t, a, leave, leaves(1))
	for range 3 {
		idle(t, a, take, a)
		held(t, a, -1)
		all(t, a, mustTake(t, a, 1), wins(1))
		idle(t, a, take, a)
		idle(t, a, leave, a)
		held(t, a, 1)
		all(t, a, mustLeave(t, a), leaves(2))
	}
}

// strange are arenas in which no machine of 8 pages and 2 threads has a step.
func strange(t *testing.T) []*arena.Arena {
	t.Helper()
	list := []*arena.Arena{nil, {}}
	for _, l := range []api.Layout{{Pages: 9, Threads: 2}, {Pages: 7, Threads: 2}, {Pages: 8, Threads: 1}, {Pages: 8, Threads: 3}, {Pages: 2, Threads: 8}, {Pages: 1, Threads: 1}, {Pages: 4096, Threads: 64}} {
		free, had := made(t, l.Pages, l.Threads), made(t, l.Pages, l.Threads)
		had.Store().Put(lockAt, 1)
		list = append(list, free, had)
	}
	return list
}

// 13.1, machines: ahead of each step, and behind the last, no arena, and one of another layout, is none; it goes on as if nothing had been.
func TestStrangeArenas(t *testing.T) {
	a := made(t, 8, 2)
	others := strange(t)
	none := func(m machine) {
		t.Helper()
		for _, b := range others {
			idle(t, a, m, b)
		}
	}
	all(t, a, mustTake(t, a, 0), wins(0))
	take, leave := mustTake(t, a, 1), mustLeave(t, a)
	none(take)
	goesOn(t, a, take, lost(1))
	none(take)
	none(leave)
	all(t, a, leave, leaves(1))
	none(leave)
	none(take)
	all(t, a, take, wins(1))
	none(take)
	held(t, a, 1)
}

// Machines: a step is done in the arena that is handed in, of the same layout; the other one stays.
func TestTwoArenas(t *testing.T) {
	a, b := made(t, 8, 2), made(t, 8, 2)
	all(t, a, mustTake(t, a, 0), wins(0))
	m := mustTake(t, a, 1)
	goesOn(t, a, m, lost(1))
	all(t, b, m, wins(1))
	held(t, a, 0)
	held(t, b, 1)
	idle(t, a, m, a)
	all(t, b, mustLeave(t, a), leaves(2))
	held(t, a, 0)
	held(t, b, -1)
}

// 13.2: of a lock that nobody has, and of one that each word of a thread names.
func TestHeld(t *testing.T) {
	for _, l := range someLayouts() {
		a := made(t, l.Pages, l.Threads)
		held(t, a, -1)
		for thread := range l.Threads {
			a.Store().Put(lockAt, uint64(thread)+1)
			held(t, a, thread)
		}
		a.Store().Put(lockAt, 0)
		held(t, a, -1)
	}
}

// 13.2: a take that waits does not have it; one that wins has it from that step on, till the step of the leave.
func TestHeldBetweenSteps(t *testing.T) {
	a := made(t, 8, 3)
	first, second := mustTake(t, a, 2), mustTake(t, a, 1)
	held(t, a, -1)
	first.Step(a)
	held(t, a, 2)
	second.Step(a)
	held(t, a, 2)
	leave := mustLeave(t, a)
	held(t, a, 2)
	leave.Step(a)
	held(t, a, -1)
	second.Step(a)
	held(t, a, 1)
}

// 13.2: a word that names no thread that is there is held by none.
func TestHeldByNoThread(t *testing.T) {
	a := made(t, 8, 3)
	for _, w := range strangeWords() {
		a.Store().Put(lockAt, w)
		held(t, a, -1)
	}
	for threads := 1; threads <= 64; threads++ {
		b := made(t, 1, threads)
		b.Store().Put(lockAt, uint64(threads))
		held(t, b, threads-1)
		b.Store().Put(lockAt, uint64(threads)+1)
		held(t, b, -1)
	}
}

// 13.2: of no arena, and of one that New did not make.
func TestHeldOfNoArena(t *testing.T) {
	var none *arena.Arena
	for _, a := range []*arena.Arena{none, {}} {
		if got := Held(a); got != -1 {
			t.Errorf("Held of no arena: %d", got)
		}
	}
}

// R6
func TestNilMachines(t *testing.T) {
	var take *Take
	var leave *Leave
	a := made(t, 8, 2)
	a.Store().Put(lockAt, 2)
	for _, m := range []machine{take, leave} {
		for _, b := range append(strange(t), a, made(t, 8, 2)) {
			idle(t, a, m, b)
		}
		if m.Done() {
			t.Error("nil is done")
		}
	}
	held(t, a, 1)
}

// R1: machines, and arenas, that no New made, do nothing.
func TestZeroMachines(t *testing.T) {
	a := made(t, 8, 2)
	for _, m := range []machine{&Take{}, &Leave{}} {
		for _, b := range append(strange(t), a) {
			idle(t, a, m, b)
		}
		if m.Done() {
			t.Error("it is done")
		}
	}
}

// R1: likewise if somebody has laid a store over the arena's own that has no words, or ends ahead of the lock.
func TestArenaWithoutTheLock(t *testing.T) {
	for _, n := range []int{0, 1, 2} {
		a := made(t, 8, 2)
		take, leave := mustTake(t, a, 1), mustLeave(t, a)
		*a.Store() = store.Store{}
		if n > 0 {
			*a.Store() = *store.New(n)
			a.Store().Load(0)
		}
		idle(t, a, take, a)
		idle(t, a, leave, a)
		held(t, a, -1)
	}
}

// 13.1: the chapter's example.
func TestExample(t *testing.T) {
	a := made(t, 8, 3)
	all(t, a, mustTake(t, a, 2), api.Did{Kind: api.DCas, At: 2, Old: 0, New: 3})
	held(t, a, 2)
}
