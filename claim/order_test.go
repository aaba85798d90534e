package claim

import (
	"fmt"
	"slices"
	"testing"

	"dustpan/api"
	"dustpan/arena"
	"dustpan/stack"
	"dustpan/sweep"
)

// cycle is that of all that claim here; all spans have those slots, and marks, at first.
const (
	cycle = 4
	slots = 29
	marks = 23
)

// user does something step by step; has is the pages that it came to have, ever.
type user interface {
	step(t *testing.T, a *arena.Arena) api.Did
	done() bool
	has() []int
	copied() user
}

// claimer does claims of a head, one behind the other, so many.
type claimer struct {
	trace
	left int
	had  []int
}

func newClaimer(t *testing.T, a *arena.Arena, head, many int) *claimer {
	return &claimer{*newTrace(t, a, head, cycle), many, nil}
}

func (u *claimer) step(t *testing.T, a *arena.Arena) api.Did {
	d := u.trace.step(t, a)
	if u.m.Done() {
		if page := u.m.Page(); page != -1 {
			u.had = append(slices.Clip(u.had), page)
		}
		if u.left--; u.left > 0 {
			u.trace = *newTrace(t, a, u.head, cycle)
		}
	}
	return d
}

func (u *claimer) done() bool { return u.left == 0 }
func (u *claimer) has() []int { return u.had }

func (u *claimer) copied() user {
	c, m := *u, *u.m
	c.m = &m
	return &c
}

func (u *claimer) String() string { return fmt.Sprintf("%+v %+v %d %v", *u.m, u.todo, u.left, u.had) }

// sweeper turns the state of a page as one does that sweeps beside: if it waits, to PSweeping, and then, swept, to PDone; or it has it, if somebody has left it to that one.
type sweeper struct {
	page, at int
	m        sweep.Sweep
	had      []int
}

func newSweeper(a *arena.Arena, page int) *sweeper {
	return &sweeper{page: page, m: *sweep.NewSweep(a.Layout(), page)}
}

func (u *sweeper) step(t *testing.T, a *arena.Arena) api.Did {
	place, swept := stateAt(a, u.page), 4
	switch u.at {
	case 0:
		w, _ := a.Store().Load(place)
		u.at = 1
		if w != state(cycle-1, api.PIdle) {
			u.at = swept
		}
	case 1:
		_, code := a.Store().Cas(place, state(cycle-1, api.PIdle), state(cycle, api.PSweeping))
		u.at = 2
		if code != api.OK {
			u.at = swept
		}
	case 2:
		d := u.m.Step(a)
		if u.m.Done() {
			u.at = 3
		}
		return d
	case 3:
		_, code := a.Store().Cas(place, state(cycle, api.PSweeping), state(cycle, api.PDone))
		u.at = swept
		if code != api.OK {
			u.at = 5
		}
	case 5:
		a.Store().Put(place, state(cycle, api.PHeld))
		u.at, u.had = swept, []int{u.page}
	}
	return a.Store().Last()
}

func (u *sweeper) done() bool { return u.at == 4 }
func (u *sweeper) has() []int { return u.had }

func (u *sweeper) copied() user {
	c := *u
	return &c
}

func (u *sweeper) String() string { return fmt.Sprintf("%+v", *u) }

// mover pops a page of a head, and pushes it to another one, or to the same, so often.
type mover struct {
	from, to, left int
	pop            stack.Pop
	push           stack.Push
	hand           int
}

func newMover(a *arena.Arena, from, to, many int) *mover {
	return &mover{from, to, many, *stack.NewPop(a.Layout(), from), stack.Push{}, -1}
}

func (u *mover) step(t *testing.T, a *arena.Arena) (d api.Did) {
	if u.hand == -1 {
		d = u.pop.Step(a)
		if u.hand = u.pop.Page(); u.hand != -1 {
			u.push = *stack.NewPush(a.Layout(), u.to, u.hand)
		}
		if u.pop.Done() && u.hand == -1 {
			u.again(a)
		}
		return d
	}
	if d = u.push.Step(a); u.push.Done() {
		u.hand = -1
		u.again(a)
	}
	return d
}

// again begins the next one.
func (u *mover) again(a *arena.Arena) {
	u.left--
	u.pop = *stack.NewPop(a.Layout(), u.from)
}

func (u *mover) done() bool { return u.left == 0 }
func (u *mover) has() []int { return nil }

func (u *mover) copied() user {
	c := *u
	return &c
}

func (u *mover) String() string { return fmt.Sprintf("%+v", *u) }

// crowd is users of one arena, and how often each page was swept; first is each page's state at first.
type crowd struct {
	t     *testing.T
	a     *arena.Arena
	users []user
	first []uint64
	swept []int
}

// newCrowd has stacks as lie says, the deepest first, of pages of those states.
func newCrowd(t *testing.T, lie map[int][]int, first ...uint64) *crowd {
	t.Helper()
	c := &crowd{t: t, a: made(t, len(first), 2), first: first, swept: make([]int, len(first))}
	for page, w := range first {
		span(c.a, page, w, slots, marks)
	}
	for head, list := range lie {
		lay(c.a, head, list...)
	}
	return c
}

// waiting is so many states of spans that wait.
func waiting(many int) []uint64 { return slices.Repeat([]uint64{state(cycle-1, api.PIdle)}, many) }

// waits says whether page waited at first.
func (c *crowd) waits(page int) bool { return c.first[page] == state(cycle-1, api.PIdle) }

// copied is another crowd of which all is as it is in this one.
func (c *crowd) copied() *crowd {
	d := &crowd{t: c.t, a: made(c.t, len(c.first), 2), first: c.first, swept: slices.Clone(c.swept)}
	for at, w := range c.a.Store().Words() {
		d.a.Store().Put(at, w)
	}
	for _, u := range c.users {
		d.users = append(d.users, u.copied())
	}
	return d
}

// key tells all that what follows hangs on.
func (c *crowd) key() string { return fmt.Sprint(c.a.Store().Words(), c.swept, c.users) }

// goes says whether in this cycle a state may become another one so.
func goes(was, now uint64) bool {
	switch was {
	case state(cycle-1, api.PIdle):
		return now == state(cycle, api.PHeld) || now == state(cycle, api.PSweeping)
	case state(cycle, api.PSweeping):
		return now == state(cycle, api.PDone) || now == state(cycle, api.PHanded)
	case state(cycle, api.PDone), state(cycle, api.PHanded):
		return now == state(cycle, api.PHeld)
	}
	return false
}

// step lets user i do a step, and fails unless what it did may be.
func (c *crowd) step(i int) {
	c.t.Helper()
	u := c.users[i]
	had := len(u.has())
	d := u.step(c.t, c.a)
	if d.Kind == api.DPut || d.Kind == api.DCas {
		c.turned(d)
	}
	if list := u.has(); len(list) > had {
		c.came(list[had])
	}
}

// turned fails unless d may turn that word: no state goes where it may not, and no span is swept twice, or by one that does not have it.
func (c *crowd) turned(d api.Did) {
	c.t.Helper()
	for page := range c.first {
		switch d.At {
		case stateAt(c.a, page):
			if !goes(d.Old, d.New) {
				c.t.Fatalf("page %d: a state %d becomes %d", page, d.Old, d.New)
			}
		case allocAt(c.a, page):
			if c.swept[page]++; c.swept[page] > 1 || !c.waits(page) {
				c.t.Fatalf("page %d is swept %d times", page, c.swept[page])
			}
		}
	}
}

// came fails unless the page that somebody has just come to have is had by nobody else, swept and held.
func (c *crowd) came(page int) {
	c.t.Helper()
	if n := c.owners()[page]; n != 1 {
		c.t.Fatalf("page %d is had by %d", page, n)
	}
	if c.waits(page) {
		stands(c.t, c.a, page, state(cycle, api.PHeld), slots&marks, 0)
	} else {
		stands(c.t, c.a, page, state(cycle, api.PHeld), slots, marks)
	}
}

// owners is how many have each page.
func (c *crowd) owners() []int {
	list := make([]int, len(c.first))
	for _, u := range c.users {
		for _, page := range u.has() {
			list[page]++
		}
	}
	return list
}

// able is the users that have a step left.
func (c *crowd) able() []int {
	var list []int
	for i, u := range c.users {
		if !u.done() {
			list = append(list, i)
		}
	}
	return list
}

// ended fails unless, when one more has emptied all stacks, each span that waited was swept once, and one has it; so has one each that was done. Nobody has any other.
func (c *crowd) ended() {
	c.t.Helper()
	for head := 8; head <= 67; head++ {
		if list := stack.List(c.a, head); len(list) > 0 {
			u := newClaimer(c.t, c.a, head, len(list)+1)
			c.users = append(c.users, u)
			for !u.done() {
				c.step(len(c.users) - 1)
			}
			lies(c.t, c.a, head)
		}
	}
	for page, n := range c.owners() {
		want, swept := 0, 0
		switch {
		case c.waits(page):
			want, swept = 1, 1
		case c.first[page] == state(cycle, api.PDone):
			want = 1
		}
		if n != want || c.swept[page] != swept {
			c.t.Fatalf("page %d: %d have it, want %d; it was swept %d times, want %d", page, n, want, c.swept[page], swept)
		}
	}
}

// eachOrder goes through all that comes of any order of steps, once each, and answers how much that was. What follows hangs on what there is, not on how it came about: so where two orders meet it goes on but once.
func eachOrder(begin *crowd) int {
	seen, left := map[string]bool{}, []*crowd{begin}
	for len(left) > 0 {
		c := left[len(left)-1]
		left = left[:len(left)-1]
		able := c.able()
		for _, i := range able {
			d := c.copied()
			d.step(i)
			if key := d.key(); !seen[key] {
				seen[key] = true
				left = append(left, d)
			}
		}
		if len(able) == 0 {
			c.ended()
		}
	}
	return len(seen)
}

// inEachOrder lets users that make makes go on in each order of their steps.
func inEachOrder(t *testing.T, least int, c *crowd, users ...user) {
	t.Helper()
	c.users = users
	if n := eachOrder(c); n < least {
		t.Errorf("%d things came of all orders, want %d at least", n, least)
	}
}

// 16.2: claims of one stack, of two and of three, in each order of their steps.
func TestEachOrderOfClaims(t *testing.T) {
	for _, x := range []struct{ pages, users, each, least int }{{1, 2, 1, 15}, {2, 2, 1, 60}, {2, 2, 2, 100}, {3, 2, 2, 150}, {1, 3, 1, 100}, {2, 3, 1, 500}, {3, 3, 1, 800}} {
		list := []int{0, 1, 2}[:x.pages]
		c := newCrowd(t, map[int][]int{8: list}, waiting(x.pages)...)
		var users []user
		for range x.users {
			users = append(users, newClaimer(t, c.a, 8, x.each))
		}
		inEachOrder(t, x.least, c, users...)
	}
}

// 16.2: claims beside those that sweep, of the same page and of others, in each order of their steps.
func TestEachOrderBesideSweepers(t *testing.T) {
	c := newCrowd(t, map[int][]int{8: {0}}, waiting(1)...)
	inEachOrder(t, 60, c, newClaimer(t, c.a, 8, 1), newSweeper(c.a, 0))
	c = newCrowd(t, map[int][]int{8: {0}}, waiting(1)...)
	inEachOrder(t, 300, c, newClaimer(t, c.a, 8, 1), newSweeper(c.a, 0), newSweeper(c.a, 0))
	c = newCrowd(t, map[int][]int{8: {0, 1}}, waiting(2)...)
	inEachOrder(t, 300, c, newClaimer(t, c.a, 8, 2), newSweeper(c.a, 0), newSweeper(c.a, 1))
	c = newCrowd(t, map[int][]int{8: {1, 0}}, waiting(2)...)
	inEachOrder(t, 800, c, newClaimer(t, c.a, 8, 1), newClaimer(t, c.a, 8, 1), newSweeper(c.a, 0))
	c = newCrowd(t, map[int][]int{8: {1, 0}}, waiting(2)...)
	inEachOrder(t, 5000, c, newClaimer(t, c.a, 8, 2), newClaimer(t, c.a, 8, 1), newSweeper(c.a, 0), newSweeper(c.a, 1))
	c = newCrowd(t, map[int][]int{8: {0}, 9: {1}}, waiting(2)...)
	inEachOrder(t, 800, c, newClaimer(t, c.a, 8, 1), newClaimer(t, c.a, 9, 1), newSweeper(c.a, 0))
}

// 16.2: claims beside pops and pushes of the same stack, and of another one, in each order of their steps.
func TestEachOrderBesideMovers(t *testing.T) {
	c := newCrowd(t, map[int][]int{8: {0, 1}}, waiting(2)...)
	inEachOrder(t, 100, c, newClaimer(t, c.a, 8, 1), newMover(c.a, 8, 8, 1))
	c = newCrowd(t, map[int][]int{8: {0, 1}}, waiting(2)...)
	inEachOrder(t, 300, c, newClaimer(t, c.a, 8, 2), newMover(c.a, 8, 8, 2))
	c = newCrowd(t, map[int][]int{8: {0}, 9: {1}}, waiting(2)...)
	inEachOrder(t, 300, c, newClaimer(t, c.a, 8, 2), newMover(c.a, 9, 8, 1), newMover(c.a, 8, 9, 1))
	c = newCrowd(t, map[int][]int{8: {0, 1}}, waiting(2)...)
	inEachOrder(t, 1000, c, newClaimer(t, c.a, 8, 1), newMover(c.a, 8, 8, 1), newSweeper(c.a, 1))
}

// 16.2: what does not wait is swept by nobody; one that is done is had by one, in each order of the steps.
func TestEachOrderOfOtherStates(t *testing.T) {
	for _, w := range []uint64{state(cycle, api.PDone), state(cycle, api.PIdle), state(cycle, api.PHanded), 0, state(cycle-1, api.PDone)} {
		c := newCrowd(t, map[int][]int{8: {0, 1}}, state(cycle-1, api.PIdle), w)
		inEachOrder(t, 60, c, newClaimer(t, c.a, 8, 1), newClaimer(t, c.a, 8, 1))
		c = newCrowd(t, map[int][]int{8: {0, 1}}, state(cycle-1, api.PIdle), w)
		inEachOrder(t, 200, c, newClaimer(t, c.a, 8, 2), newSweeper(c.a, 1), newSweeper(c.a, 0))
	}
}

// drawer draws numbers, the same ones each time.
type drawer uint64

// below is the next one, from 0 to n - 1.
func (d *drawer) below(n int) int {
	*d = *d*6364136223846793005 + 1442695040888963407
	return int(uint64(*d)>>33) % n
}

// drawn is a crowd of spans in several stacks, with users that claim, sweep and move.
func drawn(t *testing.T, d *drawer) *crowd {
	t.Helper()
	heads := []int{8, 9, 40, 67}[:1+d.below(4)]
	kinds := []uint64{state(cycle, api.PDone), state(cycle, api.PIdle), state(cycle, api.PHanded), 0}
	first, lie := waiting(1+d.below(20)), map[int][]int{}
	for page := range first {
		if d.below(6) == 0 {
			first[page] = kinds[d.below(len(kinds))]
		}
		head := heads[d.below(len(heads))]
		lie[head] = append(lie[head], page)
	}
	c := newCrowd(t, lie, first...)
	for range 1 + d.below(6) {
		c.users = append(c.users, newClaimer(t, c.a, heads[d.below(len(heads))], 1+d.below(8)))
	}
	for range d.below(20) {
		c.users = append(c.users, newSweeper(c.a, d.below(len(first))))
	}
	for range d.below(4) {
		c.users = append(c.users, newMover(c.a, heads[d.below(len(heads))], heads[d.below(len(heads))], 1+d.below(5)))
	}
	return c
}

// 16.2: many users, of several stacks, in orders that are drawn.
func TestDrawnOrders(t *testing.T) {
	for seed := range 400 {
		d := drawer(seed)
		c := drawn(t, &d)
		for able := c.able(); len(able) > 0; able = c.able() {
			i := able[d.below(len(able))]
			for range 1 + d.below(4) {
				if !c.users[i].done() {
					c.step(i)
				}
			}
		}
		c.ended()
	}
}

// 16.1, 16.2: while others have begun, and never go on, one that claims comes to its end all the same; what they have left undone they do once they go on.
func TestNobodyWaits(t *testing.T) {
	for seed := range 400 {
		d := drawer(seed)
		c := drawn(t, &d)
		for i, u := range c.users {
			for range d.below(8) {
				if !u.done() {
					c.step(i)
				}
			}
		}
		for head := 8; head <= 67; head++ {
			u := newClaimer(t, c.a, head, len(c.first)+1)
			c.users = append(c.users, u)
			for n := 0; !u.done(); n++ {
				if n > 20*len(c.first) {
					t.Fatal("one that is alone does not come to its end")
				}
				c.step(len(c.users) - 1)
			}
		}
		for i, u := range c.users {
			for !u.done() {
				c.step(i)
			}
		}
		c.ended()
	}
}

// 16.2: cycles one behind the other: what was had in one, and lies there again when the next begins, is swept once more, and what was not marked is gone.
func TestCycles(t *testing.T) {
	a := made(t, 6, 2)
	alloc := make([]uint64, 6)
	for page := range alloc {
		alloc[page] = 0xffff
		span(a, page, state(1, api.PIdle), alloc[page], 0)
	}
	d := drawer(1)
	for gen := 2; gen < 10; gen++ {
		for page := range alloc {
			marked := uint64(d.below(1 << 16))
			span(a, page, state(gen-1, api.PIdle), alloc[page], marked)
			alloc[page] &= marked
			lay(a, 8, page)
		}
		for page := 5; page >= 0; page-- {
			claimed(t, a, 8, gen, page)
			stands(t, a, page, state(gen, api.PHeld), alloc[page], 0)
			alloc[page] |= 1 << d.below(16)
		}
		claimed(t, a, 8, gen, -1)
	}
}
