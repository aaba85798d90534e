package sweep

import (
	"iter"
	"slices"
	"testing"

	"dustpan/api"
	"dustpan/arena"
)

// orders goes through all orders of so many steps of each.
func orders(left []int) iter.Seq[[]int] {
	return func(yield func([]int) bool) { each(slices.Clone(left), nil, yield) }
}

// each goes on with the orders that begin with picks.
func each(left, picks []int, yield func([]int) bool) bool {
	if slices.Max(left) == 0 {
		return yield(picks)
	}
	for i := range left {
		if left[i] == 0 {
			continue
		}
		left[i]--
		on := each(left, append(slices.Clip(picks), i), yield)
		left[i]++
		if !on {
			return false
		}
	}
	return true
}

// 15.1, machines: sweeps of other pages, in each order of their steps: what comes of it is the same.
func TestEachOrderApart(t *testing.T) {
	words := []struct{ alloc, mark uint64 }{{29, 23}, {1 << 63, 0}, {6, 15}}
	n := 0
	for picks := range orders([]int{4, 4, 4}) {
		a := made(t, 3, 1)
		var list []*trace
		for page, w := range words {
			set(a, page, w.alloc, w.mark)
			list = append(list, newTrace(t, a, page))
		}
		for _, i := range picks {
			list[i].step(t, a)
		}
		for page, w := range words {
			holds(t, a, page, both(w.alloc, w.mark), 0)
			if got := list[page].m.Freed(); got != alone(w.alloc, w.mark) {
				t.Fatalf("%v: page %d: Freed %#x", picks, page, got)
			}
		}
		n++
	}
	if n != 34650 {
		t.Errorf("%d orders", n)
	}
}

// 15.1, 15.2, machines: two sweeps of one page, in each order of their steps: each does its own, and as the second one begins behind the first one's end nothing is left.
func TestEachOrderOfOnePage(t *testing.T) {
	n := 0
	for picks := range orders([]int{4, 4}) {
		a := made(t, 2, 1)
		set(a, 1, 29, 23)
		list := []*trace{newTrace(t, a, 1), newTrace(t, a, 1)}
		for _, i := range picks {
			list[i].step(t, a)
		}
		inOrder := slices.IsSorted(picks) || slices.IsSortedFunc(picks, func(i, j int) int { return j - i })
		if inOrder {
			holds(t, a, 1, 0, 0)
		}
		if got := a.Store().Words()[markAt(a.Layout(), 1)]; got != 0 {
			t.Errorf("%v: KMark %#x", picks, got)
		}
		n++
	}
	if n != 70 {
		t.Errorf("%d orders", n)
	}
}

// 15.1, machines: three sweeps of one page, in each order of their steps; each step goes by what that sweep itself has loaded.
func TestEachOrderOfThreeOfOnePage(t *testing.T) {
	for picks := range orders([]int{4, 4, 4}) {
		a := made(t, 1, 1)
		set(a, 0, 29, 23)
		list := []*trace{newTrace(t, a, 0), newTrace(t, a, 0), newTrace(t, a, 0)}
		for _, i := range picks {
			list[i].step(t, a)
		}
	}
}

// drawer draws numbers, the same ones each time.
type drawer uint64

// below is the next one, from 0 to n - 1.
func (d *drawer) below(n int) int {
	*d = *d*6364136223846793005 + 1442695040888963407
	return int(uint64(*d)>>33) % n
}

// word is one drawn, with few bits, or many, or half of them.
func (d *drawer) word() uint64 {
	draw := func() uint64 { return uint64(d.below(1<<31))<<33 ^ uint64(d.below(1<<31))<<17 ^ uint64(d.below(1<<31)) }
	switch d.below(3) {
	case 0:
		return draw() & draw() & draw()
	case 1:
		return draw() | draw() | draw()
	}
	return draw()
}

// turn lets somebody else turn a word of page: allocate, mark, or put what it likes there.
func turn(a *arena.Arena, d *drawer, page int) {
	at := allocAt(a.Layout(), page)
	if d.below(2) == 0 {
		at = markAt(a.Layout(), page)
	}
	w, _ := a.Store().Load(at)
	if d.below(2) == 0 {
		w |= 1 << d.below(64)
	} else {
		w = d.word()
	}
	a.Store().Put(at, w)
}

// 15.1, machines: many sweeps, of the same pages and of others, in orders that are drawn, while others turn the words.
func TestDrawnOrders(t *testing.T) {
	for seed := range 60 {
		d := drawer(seed)
		l := api.Layout{Pages: 1 + d.below(70), Threads: 1 + d.below(64)}
		a := filled(t, l.Pages, l.Threads, d.word())
		var able []*trace
		for range 1 + d.below(40) {
			able = append(able, newTrace(t, a, d.below(l.Pages)))
		}
		for len(able) > 0 {
			if d.below(4) == 0 {
				turn(a, &d, d.below(l.Pages))
			}
			i := d.below(len(able))
			x := able[i]
			for range 1 + d.below(4) {
				if x.did < 4 {
					x.step(t, a)
				}
			}
			if x.did == 4 {
				x.idle(t, a, a)
				able = slices.Delete(able, i, i+1)
			}
		}
	}
}

// 15.2: all pages, swept in cycles one behind the other, while slots are allocated and marked between them: what is left is just what was both; a cycle without marks leaves nothing.
func TestCycles(t *testing.T) {
	for seed := range 20 {
		d := drawer(seed)
		a := made(t, 1+d.below(20), 2)
		n := a.Layout().Pages
		left := make([]uint64, n)
		for cycle := range 6 {
			for page := range n {
				alloc, mark := left[page]|d.word(), d.word()
				if cycle == 5 {
					alloc, mark = left[page], 0
				}
				set(a, page, alloc, mark)
				left[page] = both(alloc, mark)
			}
			for i := range n {
				swept(t, a, n-1-i)
			}
			for page, w := range left {
				holds(t, a, page, w, 0)
			}
		}
		for page, w := range left {
			if w != 0 {
				t.Errorf("page %d: %#x is left", page, w)
			}
		}
	}
}
