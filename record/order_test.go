package record

import (
	"iter"
	"slices"
	"testing"

	"dustpan/api"
	"dustpan/arena"
)

// job is a machine, and the puts that it has left.
type job struct {
	m    machine
	puts []put
}

// layJob is a lay of x that has not begun.
func layJob(t *testing.T, a *arena.Arena, x span) *job {
	t.Helper()
	return &job{mustLay(t, a, x), lays(a.Layout(), x)}
}

// goneJob is a gone that has not begun.
func goneJob(t *testing.T, a *arena.Arena, page, pages int) *job {
	t.Helper()
	return &job{mustGone(t, a, page, pages), goes(a.Layout(), page, pages)}
}

// next does a job's next step, which must be the next put that it has left, and the end just if there is none behind it.
func (j *job) next(t *testing.T, a *arena.Arena) {
	t.Helper()
	step(t, a, j.m, j.puts[0])
	j.puts = j.puts[1:]
	if j.m.Done() != (len(j.puts) == 0) {
		t.Fatalf("Done %v, with %d steps left", j.m.Done(), len(j.puts))
	}
}

// orders goes through all orders of so many steps of each.
func orders(left []int) iter.Seq[[]int] {
	return func(yield func([]int) bool) { each(slices.Clone(left), nil, yield) }
}

// each goes on with the orders that begin with picks.
func each(left, picks []int, yield func([]int) bool) bool {
	if slices.Max(left) == 0 {
		return yield(picks)
	}
	for i := range left {
		if left[i] == 0 {
			continue
		}
		left[i]--
		on := each(left, append(slices.Clip(picks), i), yield)
		left[i]++
		if !on {
			return false
		}
	}
	return true
}

// indexes is the KIndex of all pages.
func indexes(a *arena.Arena) []uint64 {
	l := a.Layout()
	at := wordAt(l, api.KIndex, 0)
	return a.Store().Words()[at : at+l.Pages]
}

// inEachOrder does jobs in each order of their steps, and asks end what must hold behind them; it answers how many orders there are.
func inEachOrder(t *testing.T, begin func() (*arena.Arena, []*job), end func(*arena.Arena)) int {
	t.Helper()
	_, jobs := begin()
	var left []int
	for _, j := range jobs {
		left = append(left, len(j.puts))
	}
	n := 0
	for picks := range orders(left) {
		a, jobs := begin()
		for _, i := range picks {
			jobs[i].next(t, a)
		}
		end(a)
		n++
	}
	return n
}

// 14.1, 14.2: lays and gones of pages apart, in each order of their steps: what comes of it is the same.
func TestEachOrderApart(t *testing.T) {
	one, two, three := span{0, 3, 1, 1, 7}, span{1, large, 1, 2, 1}, span{2, 12, 2, 3, 2}
	for _, x := range []struct {
		begin func(*arena.Arena) []*job
		n     int
		want  []api.Span
	}{
		{func(a *arena.Arena) []*job { return []*job{layJob(t, a, one), layJob(t, a, two)} }, 252, []api.Span{one.of(), two.of()}},
		{func(a *arena.Arena) []*job { return []*job{layJob(t, a, three), layJob(t, a, two)} }, 462, []api.Span{two.of(), three.of()}},
		{func(a *arena.Arena) []*job { return []*job{goneJob(t, a, 4, 3), layJob(t, a, three)} }, 210, []api.Span{three.of()}},
		{func(a *arena.Arena) []*job {
			return []*job{goneJob(t, a, 4, 3), layJob(t, a, one), goneJob(t, a, 1, 1)}
		}, 6930, []api.Span{one.of()}},
	} {
		n := inEachOrder(t, func() (*arena.Arena, []*job) {
			a := made(t, 7, 1)
			run(t, a, mustLay(t, a, span{4, 7, 3, 1, 5}))
			return a, x.begin(a)
		}, func(a *arena.Arena) {
			got := List(a)
			got = slices.DeleteFunc(got, func(s api.Span) bool { return s.Page == 4 })
			if !slices.Equal(got, x.want) {
				t.Fatalf("List: %v, want %v", got, x.want)
			}
		})
		if n != x.n {
			t.Errorf("%d orders, want %d", n, x.n)
		}
	}
}

// Machines: lays and gones of pages that they have in common, in each order of their steps: each does its own puts whatever the others did.
func TestEachOrderOfTheSamePages(t *testing.T) {
	one, other, two := span{1, 3, 1, 1, 7}, span{1, 5, 1, 2, 9}, span{0, 12, 2, 3, 2}
	for _, begin := range []func(*arena.Arena) []*job{
		func(a *arena.Arena) []*job { return []*job{layJob(t, a, one), layJob(t, a, other)} },
		func(a *arena.Arena) []*job { return []*job{layJob(t, a, one), layJob(t, a, two)} },
		func(a *arena.Arena) []*job { return []*job{layJob(t, a, two), goneJob(t, a, 0, 2)} },
		func(a *arena.Arena) []*job {
			return []*job{layJob(t, a, one), goneJob(t, a, 1, 1), goneJob(t, a, 0, 2)}
		},
	} {
		n := inEachOrder(t, func() (*arena.Arena, []*job) {
			a := made(t, 2, 1)
			return a, begin(a)
		}, func(*arena.Arena) {})
		if n < 80 {
			t.Errorf("%d orders", n)
		}
	}
}

// 14.4: one that is laid, and gone, with spans on both sides of it, or with none.
func TestLaidAndGone(t *testing.T) {
	for _, sides := range []bool{false, true} {
		for class := range large + 1 {
			for pages := 1; pages <= 5; pages++ {
				a := made(t, 9, 2)
				x := span{2, class, pages, 3, 1}
				m := newLay(a.Layout(), x)
				if m == nil {
					continue
				}
				if sides {
					run(t, a, mustLay(t, a, span{0, large, 2, 1, 1}))
					run(t, a, mustLay(t, a, span{2 + pages, large, 7 - pages, 1, 1}))
				}
				was, list := indexes(a), List(a)
				run(t, a, m)
				run(t, a, mustGone(t, a, 2, pages))
				if got := indexes(a); !slices.Equal(got, was) {
					t.Errorf("laid, and gone: %+v: KIndex %v, was %v", x, got, was)
				}
				lists(t, a, list...)
			}
		}
	}
}

// 14.4: KIndex is that of the first page, in each page of the span, as long as it is laid.
func TestIndexes(t *testing.T) {
	a := made(t, 9, 2)
	want := make([]uint64, 9)
	for _, x := range []span{{5, large, 4, 1, 1}, {0, 0, 1, 1, 1}, {2, 7, 3, 1, 1}} {
		run(t, a, mustLay(t, a, x))
		for i := range x.pages {
			want[x.page+i] = uint64(x.page) + 1
		}
		if got := indexes(a); !slices.Equal(got, want) {
			t.Errorf("KIndex %v, want %v", got, want)
		}
	}
	if !slices.Equal(want, []uint64{1, 0, 3, 3, 3, 6, 6, 6, 6}) {
		t.Errorf("the test itself: %v", want)
	}
}

// 14.4: two users, each of which lays a span, and lets it go, in each order of their steps.
func TestEachOrderOfLaidAndGone(t *testing.T) {
	mine, other := span{0, 3, 1, 1, 7}, span{1, 5, 1, 2, 9}
	a := made(t, 3, 1)
	steps := func(x span) int { return len(lays(a.Layout(), x)) + len(goes(a.Layout(), x.page, x.pages)) }
	n := 0
	for picks := range orders([]int{steps(mine), steps(other)}) {
		a := made(t, 3, 1)
		run(t, a, mustLay(t, a, span{2, 0, 1, 1, 1}))
		was := indexes(a)
		jobs := [][]*job{
			{layJob(t, a, mine), goneJob(t, a, mine.page, mine.pages)},
			{layJob(t, a, other), goneJob(t, a, other.page, other.pages)},
		}
		for _, i := range picks {
			jobs[i][0].next(t, a)
			if len(jobs[i][0].puts) == 0 {
				jobs[i] = jobs[i][1:]
			}
		}
		if got := indexes(a); !slices.Equal(got, was) {
			t.Fatalf("%v: KIndex %v, was %v", picks, got, was)
		}
		n++
	}
	if n != 3432 {
		t.Errorf("%d orders", n)
	}
}

// drawer draws numbers, the same ones each time.
type drawer uint64

// below is the next one, from 0 to n - 1.
func (d *drawer) below(n int) int {
	*d = *d*6364136223846793005 + 1442695040888963407
	return int(uint64(*d)>>33) % n
}

// span draws one that lies in n pages from page on.
func (d *drawer) span(page, n int) span {
	for {
		x := span{class: d.below(large + 1), gen: 1 + d.below(1<<31)}
		x.pages = pagesOf[x.class]
		if x.class == large {
			x.pages = 1 + d.below(n)
		}
		if x.pages <= n {
			x.page = page + d.below(n-x.pages+1)
			x.alloc = (uint64(d.below(1<<31))<<33 | uint64(d.below(1<<31))) & ones(slotsOf[x.class])
			return x
		}
	}
}

// user has some pages, and lays a span there, and lets it go, as often as rounds says.
type user struct {
	page, pages, rounds int
	job                 *job
	x                   span
	lies                bool
}

// next does the user's next step.
func (u *user) next(t *testing.T, a *arena.Arena, d *drawer) {
	t.Helper()
	if u.job == nil && !u.lies {
		u.x = d.span(u.page, u.pages)
		u.job = layJob(t, a, u.x)
	} else if u.job == nil {
		u.job = goneJob(t, a, u.x.page, u.x.pages)
	}
	u.job.next(t, a)
	if len(u.job.puts) > 0 {
		return
	}
	u.job, u.lies = nil, !u.lies
	if !u.lies {
		u.rounds--
	}
}

// ends fails unless the KIndex of the user's pages are those of no span, if its last one is gone.
func (u *user) ends(t *testing.T, a *arena.Arena) {
	t.Helper()
	for i, w := range indexes(a)[u.page : u.page+u.pages] {
		if w != 0 && u.job == nil && !u.lies {
			t.Fatalf("all is gone, and KIndex of page %d is %d", u.page+i, w)
		}
	}
}

// 14.3, 14.4: users with pages of their own lay spans, and let them go, in orders that are drawn: List tells just what lies there, and behind all the ends every KIndex is as it was.
func TestDrawnOrders(t *testing.T) {
	for seed := range 60 {
		d := drawer(seed)
		a := made(t, 40, 3)
		var users []*user
		for page := 0; page < 40; {
			u := &user{page: page, pages: min(1+d.below(9), 40-page), rounds: 1 + d.below(4)}
			users = append(users, u)
			page += u.pages
		}
		was := indexes(a)
		able := slices.Clone(users)
		for len(able) > 0 {
			i := d.below(len(able))
			u := able[i]
			for range 1 + d.below(5) {
				if u.rounds > 0 {
					u.next(t, a, &d)
					u.ends(t, a)
				}
			}
			if u.rounds == 0 {
				able = slices.Delete(able, i, i+1)
			}
			lists(t, a, lying(users)...)
		}
		if got := indexes(a); !slices.Equal(got, was) {
			t.Errorf("seed %d: KIndex %v, was %v", seed, got, was)
		}
	}
}

// lying is the spans of users that are laid, and not yet gone, rising as the users' pages do.
func lying(users []*user) []api.Span {
	var list []api.Span
	for _, u := range users {
		if u.lies {
			list = append(list, u.x.of())
		}
	}
	return list
}
