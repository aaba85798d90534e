package lock

import (
	"fmt"
	"testing"

	"dustpan/api"
	"dustpan/arena"
)

// tallyAt is a spare word, which users count in by a load and a put: counts are lost if two do so at once.
const tallyAt = 5

// What a user does next.
const (
	takes = iota
	loads
	puts
	gives
)

// user takes the lock, counts, and leaves it, as often as rounds says.
type user struct {
	thread, rounds int
	does           int
	m              machine
	saw            uint64
}

// crowd is users of one arena; inside are the threads that have won it, and not left it; counted is how many counts there were.
type crowd struct {
	t       *testing.T
	a       *arena.Arena
	users   []*user
	inside  []int
	counted uint64
}

// newCrowd has a user for each of rounds, of the first threads or, if last says so, of the last ones.
func newCrowd(t *testing.T, threads int, last bool, rounds ...int) *crowd {
	t.Helper()
	c := &crowd{t: t, a: made(t, 2, threads)}
	for i, n := range rounds {
		u := &user{thread: i, rounds: n}
		if last {
			u.thread = threads - 1 - i
		}
		c.users = append(c.users, u)
	}
	return c
}

// able is the users that have a step left.
func (c *crowd) able() []*user {
	var list []*user
	for _, u := range c.users {
		if u.rounds > 0 {
			list = append(list, u)
		}
	}
	return list
}

// step lets u do a step, and holds what it did against who has the lock.
func (c *crowd) step(u *user) {
	c.t.Helper()
	switch u.does {
	case takes:
		c.take(u)
	case loads:
		u.saw, _ = c.a.Store().Load(tallyAt)
		u.does = puts
	case puts:
		c.a.Store().Put(tallyAt, u.saw+1)
		c.counted++
		u.saw, u.does = 0, gives
	case gives:
		c.give(u)
	}
	c.check()
}

// take is a step of a take of u: it wins just if nobody is inside.
func (c *crowd) take(u *user) {
	c.t.Helper()
	if u.m == nil {
		u.m = mustTake(c.t, c.a, u.thread)
	}
	free := len(c.inside) == 0
	want := wins(u.thread)
	if !free {
		want = lost(uint64(c.inside[0]) + 1)
	}
	if d := u.m.Step(c.a); d != want || u.m.Done() != free {
		c.t.Fatalf("a take of thread %d, where %v have it: %v, want %v; Done %v", u.thread, c.inside, d, want, u.m.Done())
	}
	if u.m.Done() {
		c.inside = append(c.inside, u.thread)
		u.m, u.does = nil, loads
	}
}

// give is the leave of u.
func (c *crowd) give(u *user) {
	c.t.Helper()
	m := mustLeave(c.t, c.a)
	if d := m.Step(c.a); d != leaves(uint64(u.thread)+1) || !m.Done() {
		c.t.Fatalf("a leave of thread %d: %v, Done %v", u.thread, d, m.Done())
	}
	c.inside = c.inside[:len(c.inside)-1]
	u.rounds, u.does = u.rounds-1, takes
}

// check fails if two have the lock, or another one than Held tells, or a count is lost.
func (c *crowd) check() {
	c.t.Helper()
	want := -1
	if len(c.inside) > 0 {
		want = c.inside[0]
	}
	if len(c.inside) > 1 || Held(c.a) != want {
		c.t.Fatalf("%v have it, Held %d", c.inside, Held(c.a))
	}
	if got := c.a.Store().Words()[tallyAt]; got != c.counted {
		c.t.Fatalf("%d counts, of %d", got, c.counted)
	}
}

// key tells all that what follows hangs on.
func (c *crowd) key() string {
	words := c.a.Store().Words()
	key := fmt.Sprint(words[lockAt], words[tallyAt])
	for _, u := range c.users {
		key += fmt.Sprint("; ", u.rounds, u.does, u.saw, u.m != nil)
	}
	return key
}

// copied is the same as c, in an arena of its own.
func (c *crowd) copied() *crowd {
	o := *c
	o.a = made(c.t, c.a.Layout().Pages, c.a.Layout().Threads)
	for at, w := range c.a.Store().Words() {
		o.a.Store().Put(at, w)
	}
	o.inside = append([]int(nil), c.inside...)
	o.users = nil
	for _, u := range c.users {
		v := *u
		if m, ok := u.m.(*Take); ok {
			take := *m
			v.m = &take
		}
		o.users = append(o.users, &v)
	}
	return &o
}

// inEachOrder goes through all that comes of any order of c's steps, once each, and answers how much that was, and how many ends there are.
func inEachOrder(c *crowd) (int, int) {
	seen, ends := map[string]bool{c.key(): true}, 0
	left := []*crowd{c}
	for len(left) > 0 {
		c, left = left[len(left)-1], left[:len(left)-1]
		able := c.able()
		if len(able) == 0 {
			ends++
		}
		for i := range able {
			o := c.copied()
			o.step(o.able()[i])
			if key := o.key(); !seen[key] {
				seen[key] = true
				left = append(left, o)
			}
		}
	}
	return len(seen), ends
}

// 13.3: at no time two have it: all that comes of any order of the steps of a few, of the first threads and of the last ones.
func TestEachOrder(t *testing.T) {
	for _, x := range []struct {
		rounds []int
		least  int
	}{
		{[]int{3}, 10}, {[]int{1, 1}, 15}, {[]int{3, 3}, 80}, {[]int{5, 2}, 80}, {[]int{1, 1, 1}, 60}, {[]int{2, 2, 2}, 300}, {[]int{1, 1, 1, 1}, 200}, {[]int{2, 1, 2, 1}, 400},
	} {
		for _, threads := range []int{len(x.rounds), 64} {
			for _, last := range []bool{false, true} {
				n, ends := inEachOrder(newCrowd(t, threads, last, x.rounds...))
				if n < x.least || ends != 1 {
					t.Errorf("%v: %d things came of all orders, %d ends, want %d at least, and one end", x.rounds, n, ends, x.least)
				}
			}
		}
	}
}

// drawer draws numbers, the same ones each time.
type drawer uint64

// below is the next one, from 0 to n - 1.
func (d *drawer) below(n int) int {
	*d = *d*6364136223846793005 + 1442695040888963407
	return int(uint64(*d)>>33) % n
}

// 13.3: many threads, in orders that are drawn; each comes to its end.
func TestDrawnOrders(t *testing.T) {
	for seed := range 40 {
		d := drawer(seed)
		threads := 1 + d.below(64)
		rounds := make([]int, threads)
		sum := 0
		for i := range rounds {
			rounds[i] = 1 + d.below(5)
			sum += rounds[i]
		}
		c := newCrowd(t, threads, false, rounds...)
		for able := c.able(); len(able) > 0; able = c.able() {
			u := able[d.below(len(able))]
			for range 1 + d.below(6) {
				if u.rounds > 0 {
					c.step(u)
				}
			}
		}
		if c.counted != uint64(sum) || Held(c.a) != -1 {
			t.Errorf("seed %d: %d counts, want %d; Held %d", seed, c.counted, sum, Held(c.a))
		}
	}
}

// 13.3: while one that has it does no step, no other gets it, however often all of them try; as it leaves, the next one does.
func TestOneThatStays(t *testing.T) {
	c := newCrowd(t, 64, false, 1, 1, 1, 1)
	stays, others := c.users[2], []*user{c.users[0], c.users[1], c.users[3]}
	c.step(stays)
	for range 50 {
		for _, u := range others {
			c.step(u)
		}
	}
	held(t, c.a, 2)
	for stays.rounds > 0 {
		c.step(stays)
	}
	held(t, c.a, -1)
	c.step(others[1])
	held(t, c.a, 1)
}

// 13.3: a take that is lost turns nothing: what others see is the same with it and without.
func TestLostTurnsNothing(t *testing.T) {
	a := made(t, 2, 3)
	all(t, a, mustTake(t, a, 0), wins(0))
	words := fmt.Sprint(a.Store().Words())
	m := mustTake(t, a, 1)
	for range 10 {
		if d := m.Step(a); d.Kind != api.DLost || d.Old != d.New {
			t.Errorf("a take that is lost: %v", d)
		}
	}
	if fmt.Sprint(a.Store().Words()) != words {
		t.Error("a take that is lost turned a word")
	}
}
