package stack

import (
	"fmt"
	"slices"
	"testing"

	"dustpan/api"
	"dustpan/arena"
)

// op is a pop of a head, or a push of the page that a user has had longest.
type op struct {
	push bool
	head int
}

// user does ops one behind the other; hand is the pages that it has.
type user struct {
	ops  []op
	hand []int
	m    machine
	at   int
	wins int // how many swaps of its head were won when it loaded that
}

// crowd is users of one arena, and what must lie in each stack, the top last.
type crowd struct {
	t     *testing.T
	a     *arena.Arena
	users []*user
	lie   map[int][]int
	wins  map[int]int
}

// newCrowd has stacks as lie says, the top last, and all heads with that tag; the first user has all other pages.
func newCrowd(t *testing.T, pages int, tag uint64, lie map[int][]int, users ...*user) *crowd {
	t.Helper()
	c := &crowd{t: t, a: made(t, pages, 4), users: users, lie: map[int][]int{}, wins: map[int]int{}}
	there := map[int]bool{}
	for head, list := range lie {
		c.lie[head] = slices.Clone(list)
		lay(t, c.a, head, list...)
		c.a.Store().Put(head, word(tag, -1)|c.a.Store().Words()[head]%(1<<32))
		for _, p := range list {
			there[p] = true
		}
	}
	for p := range pages {
		if !there[p] {
			users[0].hand = append(users[0].hand, p)
		}
	}
	c.check()
	return c
}

// ready lets user u begin its next op, if it has none; false, if it has none left. A push of nothing is left out.
func (c *crowd) ready(u *user) bool {
	for u.m == nil && len(u.ops) > 0 {
		o := u.ops[0]
		u.ops = u.ops[1:]
		u.at = o.head
		switch {
		case !o.push:
			u.m = mustPop(c.t, c.a, o.head)
		case len(u.hand) > 0:
			u.m = mustPush(c.t, c.a, o.head, u.hand[0])
		}
	}
	return u.m != nil
}

// able is the users that have a step left.
func (c *crowd) able() []*user {
	var list []*user
	for _, u := range c.users {
		if c.ready(u) {
			list = append(list, u)
		}
	}
	return list
}

// step lets u do a step, and holds what it did against what lies there.
func (c *crowd) step(u *user) {
	c.t.Helper()
	d := u.m.Step(c.a)
	switch {
	case d.Kind == api.DLoad && d.At == u.at:
		u.wins = c.wins[u.at]
	case d.Kind == api.DCas:
		c.won(u)
	case d.Kind == api.DLost && u.wins == c.wins[u.at]:
		c.t.Fatal("a swap is lost, and nobody was ahead")
	}
	if u.m.Done() {
		c.ended(u, d)
	}
	c.check()
}

// won is a swap of u that wins.
func (c *crowd) won(u *user) {
	c.t.Helper()
	if u.wins != c.wins[u.at] {
		c.t.Fatal("a swap wins, though somebody was ahead")
	}
	c.wins[u.at]++
	list := c.lie[u.at]
	if _, ok := u.m.(*Push); ok {
		c.lie[u.at] = append(list, u.hand[0])
		u.hand = u.hand[1:]
		return
	}
	if len(list) == 0 {
		c.t.Fatal("a pop of what does not lie there")
	}
	u.hand = append(u.hand, list[len(list)-1])
	c.lie[u.at] = list[:len(list)-1]
}

// ended is the end of u's machine, by the step d.
func (c *crowd) ended(u *user, d api.Did) {
	c.t.Helper()
	if pop, ok := u.m.(*Pop); ok {
		want := -1
		if d.Kind == api.DCas {
			want = u.hand[len(u.hand)-1]
		} else if len(c.lie[u.at]) > 0 {
			c.t.Fatalf("a pop found none where %v lie", c.lie[u.at])
		}
		page(c.t, pop, want)
	} else if d.Kind != api.DCas {
		c.t.Fatalf("a push ends with %v", d)
	}
	u.m = nil
}

// check fails unless each page lies in one stack, or is in one hand, and each stack lies as it must.
func (c *crowd) check() {
	c.t.Helper()
	var pages []int
	for head, list := range c.lie {
		got := List(c.a, head)
		slices.Reverse(got)
		if !slices.Equal(got, list) {
			c.t.Fatalf("in stack %d there lie %v, want %v", head, got, list)
		}
		pages = append(pages, got...)
	}
	for _, u := range c.users {
		pages = append(pages, u.hand...)
	}
	slices.Sort(pages)
	for i, p := range pages {
		if i != p {
			c.t.Fatalf("pages that lie there, or that somebody has: %v", pages)
		}
	}
	if len(pages) != c.a.Layout().Pages {
		c.t.Fatalf("%d pages of %d lie there, or are in a hand", len(pages), c.a.Layout().Pages)
	}
}

// key tells all that what follows hangs on.
func (c *crowd) key() string {
	c.able()
	key := fmt.Sprint(c.a.Store().Words())
	for _, u := range c.users {
		key += fmt.Sprint("; ", u.ops, u.hand, u.at, u.wins, " ")
		switch m := u.m.(type) {
		case *Pop:
			key += fmt.Sprintf("%#v", *m)
		case *Push:
			key += fmt.Sprintf("%#v", *m)
		}
	}
	return key
}

// eachOrder goes through all that comes of any order of steps, once each, and answers how much that was. What follows hangs on what there is, not on how it came about: so where two orders meet it goes on but once.
func eachOrder(begin func() *crowd) int {
	seen, orders := map[string]bool{}, [][]int{nil}
	for len(orders) > 0 {
		picks := orders[len(orders)-1]
		orders = orders[:len(orders)-1]
		c := begin()
		for _, pick := range picks {
			c.step(c.able()[pick])
		}
		for key := c.key(); !seen[key]; key = c.key() {
			seen[key] = true
			able := c.able()
			if len(able) == 0 {
				break
			}
			for i := 1; i < len(able); i++ {
				orders = append(orders, append(slices.Clone(picks), i))
			}
			picks = append(slices.Clone(picks), 0)
			c.step(able[0])
		}
	}
	return len(seen)
}

// inEachOrder lets users do those ops in each order of their steps, where two pages lie in stack 8, one in stack 9, and the first user has one.
func inEachOrder(t *testing.T, least int, ops ...[]op) {
	t.Helper()
	for _, tag := range []uint64{0, lastTag - 1} {
		n := eachOrder(func() *crowd {
			var users []*user
			for _, list := range ops {
				users = append(users, &user{ops: list})
			}
			return newCrowd(t, 4, tag, map[int][]int{8: {0, 1}, 9: {2}}, users...)
		})
		if n < least {
			t.Errorf("%d things came of all orders, want %d at least", n, least)
		}
	}
}

// 12.4: two users, in each order of their steps.
func TestEachOrderOfTwo(t *testing.T) {
	pop, push, over := op{false, 8}, op{true, 8}, op{true, 9}
	inEachOrder(t, 15, []op{pop}, []op{pop})
	inEachOrder(t, 15, []op{push}, []op{pop})
	inEachOrder(t, 100, []op{push, pop}, []op{pop, pop})
	inEachOrder(t, 50, []op{pop}, []op{pop, pop, push})
	inEachOrder(t, 50, []op{push}, []op{pop, push, pop})
	inEachOrder(t, 50, []op{pop}, []op{pop, pop, over, push})
	inEachOrder(t, 100, []op{pop, push}, []op{pop, pop, push})
	inEachOrder(t, 100, []op{pop, over}, []op{pop, push, {false, 9}})
	inEachOrder(t, 500, []op{pop, push, pop, push}, []op{pop, pop, push, push})
}

// 12.4: three users, in each order of their steps.
func TestEachOrderOfThree(t *testing.T) {
	pop, push := op{false, 8}, op{true, 8}
	inEachOrder(t, 100, []op{push}, []op{pop}, []op{pop})
	inEachOrder(t, 100, []op{pop}, []op{pop}, []op{pop})
	inEachOrder(t, 300, []op{pop}, []op{pop}, []op{pop, push})
	inEachOrder(t, 1000, []op{pop}, []op{pop, push}, []op{pop, push})
}

// drawer draws numbers, the same ones each time.
type drawer uint64

// below is the next one, from 0 to n - 1.
func (d *drawer) below(n int) int {
	*d = *d*6364136223846793005 + 1442695040888963407
	return int(uint64(*d)>>33) % n
}

// 12.4: users that pop from, and push to, several stacks, in orders that are drawn.
func TestDrawnOrders(t *testing.T) {
	heads := []int{8, 9, 40, 67}
	for seed := range 300 {
		d := drawer(seed)
		users := make([]*user, 1+d.below(6))
		for i := range users {
			users[i] = &user{}
			for range 5 + d.below(30) {
				users[i].ops = append(users[i].ops, op{d.below(2) == 0, heads[d.below(1+seed%len(heads))]})
			}
		}
		lie := map[int][]int{8: nil, 9: {3, 0}, 40: nil, 67: nil}
		if seed%2 == 0 {
			lie[8] = []int{5, 4, 1}
		}
		c := newCrowd(t, 6+d.below(4), uint64(lastTag-d.below(9)), lie, users...)
		for able := c.able(); len(able) > 0; able = c.able() {
			u := able[d.below(len(able))]
			for range 1 + d.below(4) {
				if c.ready(u) {
					c.step(u)
				}
			}
		}
	}
}

// 12.4: while pops and pushes are going on and never end, the others go on all the same.
func TestNobodyWaits(t *testing.T) {
	for cut := 1; cut <= 2; cut++ {
		stuck := []*user{{ops: []op{{false, 8}}}, {ops: []op{{true, 8}}}}
		busy := &user{}
		for range 20 {
			busy.ops = append(busy.ops, op{false, 8}, op{false, 8}, op{true, 8})
		}
		c := newCrowd(t, 30, 0, map[int][]int{8: {0, 1, 2, 3, 4, 5, 6, 7, 8, 9, 10, 11, 12, 13, 14, 15, 16, 17, 18, 19, 20, 21}}, append(stuck, busy)...)
		stuck[1].hand, stuck[0].hand = stuck[0].hand[:1], stuck[0].hand[1:]
		for _, u := range stuck {
			for range cut {
				c.ready(u)
				c.step(u)
			}
		}
		taken := 0
		for c.ready(busy) {
			if taken++; taken > 3*60 {
				t.Fatal("one that is alone does not come to its end")
			}
			c.step(busy)
		}
		for _, u := range stuck {
			for c.ready(u) {
				c.step(u)
			}
		}
	}
}
