package runs

import (
	"math"
	"slices"
	"testing"

	"dustpan/api"
)

// model is which pages are free, page by page, and what each run drew when it was put.
type model struct {
	free  []bool
	draws []uint32
	drawn int
	drew  map[api.Run]uint32
}

func newModel(pages int, draws []uint32) *model {
	m := &model{free: make([]bool, pages), draws: draws, drew: map[api.Run]uint32{}}
	for i := range m.free {
		m.free[i] = true
	}
	m.settle()
	return m
}

// settle lets each run that is new draw; at most one is, of a single call.
func (m *model) settle() {
	drew := map[api.Run]uint32{}
	for _, run := range m.list() {
		draw, there := m.drew[run]
		if !there {
			if m.drawn < len(m.draws) {
				draw = m.draws[m.drawn]
			}
			m.drawn++
		}
		drew[run] = draw
	}
	m.drew = drew
}

func (m *model) list() []api.Run {
	var list []api.Run
	for i, free := range m.free {
		switch {
		case !free:
		case i > 0 && m.free[i-1]:
			list[len(list)-1].N++
		default:
			list = append(list, api.Run{At: i, N: 1})
		}
	}
	return list
}

func (m *model) total() int {
	total := 0
	for _, free := range m.free {
		if free {
			total++
		}
	}
	return total
}

func (m *model) find(n int) (int, bool) {
	best := api.Run{N: math.MaxInt}
	for _, run := range m.list() {
		if n >= 1 && run.N >= n && run.N < best.N {
			best = run
		}
	}
	return best.At, best.N < math.MaxInt
}

func (m *model) take(n int) (int, api.Errno) {
	if n < 1 {
		return 0, api.ErrArg
	}
	at, ok := m.find(n)
	if !ok {
		return 0, api.ErrFull
	}
	for i := range n {
		m.free[at+i] = false
	}
	m.settle()
	return at, api.OK
}

func (m *model) put(at, n int) api.Errno {
	if n < 1 || n > len(m.free) || at < 0 || at > len(m.free)-n {
		return api.ErrArg
	}
	if slices.Contains(m.free[at:at+n], true) {
		return api.ErrTwice
	}
	for i := range n {
		m.free[at+i] = true
	}
	m.settle()
	return api.OK
}

// shape is the one treap of the runs' keys and draws: above all stands the greatest draw, of these the least key.
func (m *model) shape() []api.Node {
	runs := m.list()
	slices.SortFunc(runs, func(a, b api.Run) int { return 8192*a.N + a.At - 8192*b.N - b.At })
	return m.below(runs, 0)
}

func (m *model) below(runs []api.Run, depth int) []api.Node {
	if len(runs) == 0 {
		return nil
	}
	top := 0
	for i, run := range runs {
		if m.drew[run] > m.drew[runs[top]] {
			top = i
		}
	}
	list := []api.Node{{Key: 8192*runs[top].N + runs[top].At, Depth: depth}}
	list = append(list, m.below(runs[:top], depth+1)...)
	return append(list, m.below(runs[top+1:], depth+1)...)
}

// same holds all that runs tell of themselves against a model.
func same(t *testing.T, r *Runs, m *model) {
	t.Helper()
	if got, want := r.List(), m.list(); !slices.Equal(got, want) {
		t.Fatalf("List %v, want %v", got, want)
	}
	if got, want := r.Total(), m.total(); got != want {
		t.Fatalf("Total %d, want %d", got, want)
	}
	if got := r.Drawn(); got != m.drawn {
		t.Fatalf("Drawn %d, want %d", got, m.drawn)
	}
	if got, want := r.Shape(), m.shape(); !slices.Equal(got, want) {
		t.Fatalf("Shape %v, want %v", got, want)
	}
}

// found holds Find of n against a model.
func found(t *testing.T, r *Runs, m *model, n int) {
	t.Helper()
	at, ok := r.Find(n)
	if want, there := m.find(n); at != want || ok != there {
		t.Fatalf("Find %d: %d %v, want %d %v", n, at, ok, want, there)
	}
}

// pair is runs, and their model beside them: what is done to the one is done to the other.
type pair struct {
	r *Runs
	m *model
}

func newPair(pages int, draws []uint32) pair {
	return pair{New(pages, slices.Clone(draws)), newModel(pages, slices.Clone(draws))}
}

func (p pair) take(t *testing.T, n int) (int, api.Errno) {
	t.Helper()
	at, e := p.r.Take(n)
	if want, code := p.m.take(n); at != want || e != code {
		t.Fatalf("Take %d: %d %v, want %d %v", n, at, e, want, code)
	}
	same(t, p.r, p.m)
	return at, e
}

func (p pair) put(t *testing.T, at, n int) api.Errno {
	t.Helper()
	e := p.r.Put(at, n)
	if code := p.m.put(at, n); e != code {
		t.Fatalf("Put %d, %d: %v, want %v", at, n, e, code)
	}
	same(t, p.r, p.m)
	return e
}

// cut is a pair of which just the given runs are free.
func cut(t *testing.T, pages int, draws []uint32, free ...api.Run) pair {
	t.Helper()
	p := newPair(pages, draws)
	p.take(t, pages)
	for _, run := range free {
		if e := p.put(t, run.At, run.N); e != api.OK {
			t.Fatalf("Put %v: %v", run, e)
		}
	}
	return p
}

// mixer tells numbers that look as if they were drawn, always the same ones.
type mixer uint64

func (x *mixer) next() uint64 {
	*x += 0x9e3779b97f4a7c15
	z := uint64(*x)
	z = (z ^ z>>30) * 0xbf58476d1ce4e5b9
	z = (z ^ z>>27) * 0x94d049bb133111eb
	return z ^ z>>31
}

func (x *mixer) below(n int) int { return int(x.next() % uint64(n)) }

func (x *mixer) draws(n int, most uint32) []uint32 {
	list := make([]uint32, n)
	for i := range list {
		list[i] = uint32(x.next() % (uint64(most) + 1))
	}
	return list
}

// 10.1, 10.2, 10.3: the chapter's example.
func TestExamples(t *testing.T) {
	r := New(8, nil)
	if at, e := r.Take(3); at != 0 || e != api.OK {
		t.Errorf("Take 3: %d %v", at, e)
	}
	if at, e := r.Take(2); at != 3 || e != api.OK {
		t.Errorf("Take 2: %d %v", at, e)
	}
	if e := r.Put(0, 3); e != api.OK {
		t.Errorf("Put 0, 3: %v", e)
	}
	if got, want := r.List(), []api.Run{{At: 0, N: 3}, {At: 5, N: 3}}; !slices.Equal(got, want) {
		t.Errorf("List %v, want %v", got, want)
	}
	if at, e := r.Take(3); at != 0 || e != api.OK {
		t.Errorf("Take 3 again: %d %v", at, e)
	}
}

// 10.1, 10.3: New is one run of all, put with the first draw; of a wrong number of pages it is nil.
func TestNew(t *testing.T) {
	for _, pages := range []int{1, 2, 63, 64, 65, api.MaxPages - 1, api.MaxPages} {
		r := New(pages, nil)
		if r == nil {
			t.Fatalf("New %d: nil", pages)
		}
		if got := r.List(); !slices.Equal(got, []api.Run{{At: 0, N: pages}}) {
			t.Errorf("New %d: List %v", pages, got)
		}
		if got := r.Shape(); !slices.Equal(got, []api.Node{{Key: 8192 * pages}}) {
			t.Errorf("New %d: Shape %v", pages, got)
		}
		if r.Total() != pages || r.Drawn() != 1 {
			t.Errorf("New %d: Total %d, Drawn %d", pages, r.Total(), r.Drawn())
		}
		for _, n := range []int{1, pages} {
			if at, ok := r.Find(n); at != 0 || !ok {
				t.Errorf("New %d: Find %d: %d %v", pages, n, at, ok)
			}
		}
		if at, ok := r.Find(pages + 1); at != 0 || ok {
			t.Errorf("New %d: Find of one more: %d %v", pages, at, ok)
		}
	}
	for _, pages := range []int{0, -1, -api.MaxPages, math.MinInt, api.MaxPages + 1, 8192, math.MaxInt} {
		if New(pages, nil) != nil || New(pages, []uint32{1, 2}) != nil {
			t.Errorf("New %d: not nil", pages)
		}
	}
}

// 10.1, R3: Find of the length of a run, of one more, of all, of more than there are, of no number of pages.
func TestFind(t *testing.T) {
	p := cut(t, 20, nil, api.Run{At: 1, N: 5}, api.Run{At: 7, N: 2}, api.Run{At: 10, N: 2}, api.Run{At: 13, N: 7})
	for _, c := range []struct {
		n, at int
		ok    bool
	}{
		{1, 7, true}, {2, 7, true}, {3, 1, true}, {5, 1, true}, {6, 13, true}, {7, 13, true}, {8, 0, false},
		{16, 0, false}, {20, 0, false}, {21, 0, false}, {api.MaxPages, 0, false}, {8192, 0, false}, {1 << 51, 0, false},
		{math.MaxInt / 8192, 0, false}, {math.MaxInt/8192 + 1, 0, false}, {1<<51 + 1, 0, false}, {math.MaxInt, 0, false},
		{0, 0, false}, {-1, 0, false}, {-8192, 0, false}, {math.MinInt / 8192, 0, false}, {math.MinInt, 0, false},
	} {
		if at, ok := p.r.Find(c.n); at != c.at || ok != c.ok {
			t.Errorf("Find %d: %d %v, want %d %v", c.n, at, ok, c.at, c.ok)
		}
	}
	same(t, p.r, p.m)
}

// 10.1: of several runs of one length the lowest one, whatever the order in which they came.
func TestFindLowest(t *testing.T) {
	for _, order := range [][]int{{0, 4, 8}, {0, 8, 4}, {4, 0, 8}, {4, 8, 0}, {8, 0, 4}, {8, 4, 0}} {
		for _, draws := range [][]uint32{nil, {0, 1, 2, 3}, {0, 3, 2, 1}, {0, 1, 3, 2}} {
			p := newPair(11, draws)
			p.take(t, 11)
			for _, at := range order {
				p.put(t, at, 3)
			}
			for _, want := range []int{0, 4, 8} {
				if at, e := p.take(t, 2); at != want || e != api.OK {
					// What is left of each has 1 page, and is not found any more.
					t.Errorf("Take 2: %d %v, want %d", at, e, want)
				}
			}
		}
	}
}

// 10.1: the shorter run is taken from, be it ahead of a longer one or behind it.
func TestFindShortest(t *testing.T) {
	for _, c := range []struct {
		free  []api.Run
		n, at int
	}{
		{[]api.Run{{At: 0, N: 3}, {At: 4, N: 6}}, 2, 0},
		{[]api.Run{{At: 0, N: 6}, {At: 7, N: 3}}, 2, 7},
		{[]api.Run{{At: 0, N: 6}, {At: 7, N: 3}}, 3, 7},
		{[]api.Run{{At: 0, N: 6}, {At: 7, N: 3}}, 4, 0},
		{[]api.Run{{At: 0, N: 1}, {At: 2, N: 4}, {At: 7, N: 3}}, 2, 7},
		{[]api.Run{{At: 0, N: 4}, {At: 5, N: 1}, {At: 7, N: 3}}, 1, 5},
	} {
		p := cut(t, 10, nil, c.free...)
		if at, ok := p.r.Find(c.n); at != c.at || !ok {
			t.Errorf("%v: Find %d: %d %v, want %d", c.free, c.n, at, ok, c.at)
		}
		if at, e := p.take(t, c.n); at != c.at || e != api.OK {
			t.Errorf("%v: Take %d: %d %v, want %d", c.free, c.n, at, e, c.at)
		}
	}
}

// 10.1, 10.3: Take of a part puts what is left, Take of a whole run puts nothing.
func TestTake(t *testing.T) {
	r := New(10, []uint32{7, 8, 9})
	if at, e := r.Take(4); at != 0 || e != api.OK {
		t.Fatalf("Take 4: %d %v", at, e)
	}
	if got := r.List(); !slices.Equal(got, []api.Run{{At: 4, N: 6}}) || r.Drawn() != 2 || r.Total() != 6 {
		t.Fatalf("Take of a part: List %v, Drawn %d, Total %d", got, r.Drawn(), r.Total())
	}
	if at, e := r.Take(6); at != 4 || e != api.OK {
		t.Fatalf("Take 6: %d %v", at, e)
	}
	if r.Drawn() != 2 || r.Total() != 0 || len(r.List()) != 0 || len(r.Shape()) != 0 {
		t.Fatalf("Take of the whole: List %v, Shape %v, Drawn %d, Total %d", r.List(), r.Shape(), r.Drawn(), r.Total())
	}
	if at, e := r.Take(1); at != 0 || e != api.ErrFull {
		t.Fatalf("Take of nothing that is left: %d %v", at, e)
	}
	if e := r.Put(0, 10); e != api.OK || r.Drawn() != 3 {
		t.Fatalf("Put of all: %v, Drawn %d", e, r.Drawn())
	}
	if at, e := r.Take(10); at != 0 || e != api.OK || r.Drawn() != 3 {
		t.Fatalf("Take of all: %d %v, Drawn %d", at, e, r.Drawn())
	}
}

// 10.1, R2, R3, R5: a refused Take tells its code alone, and turns nothing.
func TestTakeRefused(t *testing.T) {
	full := cut(t, 12, []uint32{4, 1, 7}, api.Run{At: 1, N: 3}, api.Run{At: 6, N: 5})
	none := cut(t, 12, nil)
	for _, p := range []pair{full, none} {
		for _, n := range []int{0, -1, -12, math.MinInt / 8192, math.MinInt} {
			if at, e := p.take(t, n); at != 0 || e != api.ErrArg {
				t.Errorf("Take %d: %d %v, want ErrArg", n, at, e)
			}
		}
		for _, n := range []int{6, 8, 12, 13, api.MaxPages, api.MaxPages + 1, 1 << 51, math.MaxInt/8192 + 1, math.MaxInt} {
			if at, e := p.take(t, n); at != 0 || e != api.ErrFull {
				t.Errorf("Take %d: %d %v, want ErrFull", n, at, e)
			}
		}
	}
}

// 10.2, 10.3: Put beside no run, beside one on its left, on its right, beside both: one run is put, those beside dropped.
func TestPut(t *testing.T) {
	for name, c := range map[string]struct {
		free  []api.Run
		at, n int
		want  []api.Run
	}{
		"of nothing free":     {nil, 5, 2, []api.Run{{At: 5, N: 2}}},
		"of all":              {nil, 0, 20, []api.Run{{At: 0, N: 20}}},
		"the first page":      {nil, 0, 1, []api.Run{{At: 0, N: 1}}},
		"the last page":       {nil, 19, 1, []api.Run{{At: 19, N: 1}}},
		"beside none":         {[]api.Run{{At: 0, N: 3}, {At: 10, N: 10}}, 4, 5, []api.Run{{At: 0, N: 3}, {At: 4, N: 5}, {At: 10, N: 10}}},
		"beside left":         {[]api.Run{{At: 0, N: 3}, {At: 10, N: 4}}, 3, 6, []api.Run{{At: 0, N: 9}, {At: 10, N: 4}}},
		"beside right":        {[]api.Run{{At: 0, N: 3}, {At: 10, N: 4}}, 4, 6, []api.Run{{At: 0, N: 3}, {At: 4, N: 10}}},
		"beside both":         {[]api.Run{{At: 0, N: 3}, {At: 10, N: 4}}, 3, 7, []api.Run{{At: 0, N: 14}}},
		"both, right shorter": {[]api.Run{{At: 0, N: 8}, {At: 10, N: 1}, {At: 12, N: 3}}, 8, 2, []api.Run{{At: 0, N: 11}, {At: 12, N: 3}}},
		"both, of one length": {[]api.Run{{At: 2, N: 4}, {At: 7, N: 4}, {At: 12, N: 4}}, 6, 1, []api.Run{{At: 2, N: 9}, {At: 12, N: 4}}},
		"what is left of all": {[]api.Run{{At: 0, N: 7}, {At: 9, N: 11}}, 7, 2, []api.Run{{At: 0, N: 20}}},
	} {
		p := cut(t, 20, []uint32{1, 6, 3, 9}, c.free...)
		drawn := p.r.Drawn()
		if e := p.put(t, c.at, c.n); e != api.OK {
			t.Errorf("%s: %v", name, e)
		}
		if got := p.r.List(); !slices.Equal(got, c.want) {
			t.Errorf("%s: List %v, want %v", name, got, c.want)
		}
		if got := p.r.Drawn(); got != drawn+1 {
			t.Errorf("%s: Drawn %d, want %d", name, got, drawn+1)
		}
	}
}

// 10.2, R2, R5: a refused Put tells the first code that applies, and turns nothing.
func TestPutRefused(t *testing.T) {
	p := cut(t, 12, []uint32{4, 1, 7}, api.Run{At: 2, N: 3}, api.Run{At: 8, N: 4})
	for _, c := range []struct {
		at, n int
		want  api.Errno
	}{
		{0, 0, api.ErrArg}, {2, 0, api.ErrArg}, {5, -1, api.ErrArg}, {12, 0, api.ErrArg}, {0, math.MinInt, api.ErrArg},
		{-1, 1, api.ErrArg}, {-1, 2, api.ErrArg}, {-3, 20, api.ErrArg}, {math.MinInt, 1, api.ErrArg},
		{math.MinInt, math.MaxInt, api.ErrArg}, {math.MinInt, math.MinInt, api.ErrArg}, {-5, -5, api.ErrArg},
		{12, 1, api.ErrArg}, {13, 1, api.ErrArg}, {13, -1, api.ErrArg}, {api.MaxPages, 1, api.ErrArg}, {0, 13, api.ErrArg},
		{5, 8, api.ErrArg}, {11, 2, api.ErrArg}, {math.MaxInt, 1, api.ErrArg}, {math.MaxInt, math.MaxInt, api.ErrArg},
		{1, math.MaxInt, api.ErrArg}, {0, math.MaxInt, api.ErrArg}, {12, math.MaxInt, api.ErrArg}, {math.MaxInt, 0, api.ErrArg},
		{2, 3, api.ErrTwice}, {2, 1, api.ErrTwice}, {3, 1, api.ErrTwice}, {4, 1, api.ErrTwice}, {11, 1, api.ErrTwice},
		{1, 2, api.ErrTwice}, {4, 2, api.ErrTwice}, {0, 12, api.ErrTwice}, {5, 4, api.ErrTwice}, {0, 6, api.ErrTwice},
		{5, 7, api.ErrTwice}, {7, 2, api.ErrTwice}, {7, 5, api.ErrTwice}, {1, 10, api.ErrTwice},
	} {
		if e := p.put(t, c.at, c.n); e != c.want {
			t.Errorf("Put %d, %d: %v, want %v", c.at, c.n, e, c.want)
		}
	}
}

// 10.2, R5: runs beside the pages have stayed where another one refuses the call, be it longer or shorter than they.
func TestPutRefusedBeside(t *testing.T) {
	for _, free := range [][]api.Run{
		{{At: 0, N: 1}, {At: 4, N: 3}}, {{At: 0, N: 3}, {At: 5, N: 1}}, {{At: 0, N: 2}, {At: 4, N: 2}},
		{{At: 1, N: 1}, {At: 3, N: 4}}, {{At: 0, N: 2}, {At: 3, N: 1}, {At: 5, N: 2}},
	} {
		p := cut(t, 8, []uint32{2, 7, 1}, free...)
		for _, run := range free {
			for n := 1; run.At+run.N+n <= 8; n++ {
				if slices.Contains(p.m.free[run.At+run.N:run.At+run.N+n], true) && p.put(t, run.At+run.N, n) != api.ErrTwice {
					t.Errorf("%v: Put behind %v of %d: not ErrTwice", free, run, n)
				}
			}
		}
	}
}

// 10.2: what was taken may be put back once, in parts or with what was taken beside it.
func TestPutBack(t *testing.T) {
	p := newPair(16, nil)
	for range 4 {
		p.take(t, 4)
	}
	for _, c := range []struct {
		at, n int
		want  api.Errno
	}{
		{5, 2, api.OK}, {5, 2, api.ErrTwice}, {4, 1, api.OK}, {7, 3, api.OK}, {3, 2, api.ErrTwice},
		{12, 4, api.OK}, {10, 2, api.OK}, {0, 4, api.OK}, {0, 16, api.ErrTwice},
	} {
		if e := p.put(t, c.at, c.n); e != c.want {
			t.Errorf("Put %d, %d: %v, want %v", c.at, c.n, e, c.want)
		}
	}
	if got := p.r.List(); !slices.Equal(got, []api.Run{{At: 0, N: 16}}) {
		t.Errorf("List %v", got)
	}
}

// nodes is a shape, told as keys each with its depth.
func nodes(told ...int) []api.Node {
	var list []api.Node
	for pair := range slices.Chunk(told, 2) {
		list = append(list, api.Node{Key: pair[0], Depth: pair[1]})
	}
	return list
}

// 10.3: draws are taken in their order, one at each run that is put, and 0 behind the last one.
func TestDraws(t *testing.T) {
	const page = 8192
	r := New(20, []uint32{1, 5, 0, 9, 5})
	r.Take(20)
	for _, c := range []struct {
		at, n, draw int
		want        []api.Node
	}{
		{0, 2, 5, nodes(2*page, 0)},
		{18, 1, 0, nodes(2*page, 0, page+18, 1)},
		{3, 4, 9, nodes(4*page+3, 0, 2*page, 1, page+18, 2)},
		{8, 5, 5, nodes(4*page+3, 0, 2*page, 1, page+18, 2, 5*page+8, 1)},
		{16, 1, 0, nodes(4*page+3, 0, 2*page, 1, page+16, 2, page+18, 3, 5*page+8, 1)},
		{14, 1, 0, nodes(4*page+3, 0, 2*page, 1, page+14, 2, page+16, 3, page+18, 4, 5*page+8, 1)},
		{15, 1, 0, nodes(4*page+3, 0, 2*page, 1, page+18, 2, 3*page+14, 2, 5*page+8, 1)},
	} {
		drawn := r.Drawn()
		if e := r.Put(c.at, c.n); e != api.OK || r.Drawn() != drawn+1 {
			t.Errorf("Put %d, %d: %v, Drawn %d, was %d", c.at, c.n, e, r.Drawn(), drawn)
		}
		if got := r.Shape(); !slices.Equal(got, c.want) {
			t.Errorf("Put %d, %d, of draw %d: Shape %v, want %v", c.at, c.n, c.draw, got, c.want)
		}
	}
}

// 10.3: keys of the longest run and of the last page do not run into one another.
func TestKeys(t *testing.T) {
	p := cut(t, api.MaxPages, nil, api.Run{At: 0, N: 1}, api.Run{At: api.MaxPages - 1, N: 1}, api.Run{At: 2, N: 2})
	want := nodes(8192, 0, 8192+4095, 1, 2*8192+2, 2)
	if got := p.r.Shape(); !slices.Equal(got, want) {
		t.Errorf("Shape %v, want %v", got, want)
	}
	p.take(t, 1)
	if at, ok := p.r.Find(1); at != api.MaxPages-1 || !ok {
		t.Errorf("Find 1: %d %v", at, ok)
	}
	p.take(t, 1)
	if at, ok := p.r.Find(1); at != 2 || !ok {
		t.Errorf("Find 1: %d %v", at, ok)
	}
}

// 10.3: every other page free is as many runs as there can be, and the pages between make them one again.
func TestEveryOther(t *testing.T) {
	r := New(api.MaxPages, nil)
	for range api.MaxPages {
		r.Take(1)
	}
	for at := 0; at < api.MaxPages; at += 2 {
		if e := r.Put(at, 1); e != api.OK {
			t.Fatalf("Put %d: %v", at, e)
		}
	}
	list := r.List()
	if len(list) != api.MaxPages/2 || r.Total() != api.MaxPages/2 || len(r.Shape()) != api.MaxPages/2 {
		t.Fatalf("%d runs, Total %d", len(list), r.Total())
	}
	for i, run := range list {
		if run != (api.Run{At: 2 * i, N: 1}) {
			t.Fatalf("run %d: %v", i, run)
		}
	}
	if at, e := r.Take(2); at != 0 || e != api.ErrFull {
		t.Fatalf("Take 2: %d %v", at, e)
	}
	for at := 1; at < api.MaxPages; at += 2 {
		if e := r.Put(at, 1); e != api.OK {
			t.Fatalf("Put %d: %v", at, e)
		}
	}
	if got := r.List(); !slices.Equal(got, []api.Run{{At: 0, N: api.MaxPages}}) || r.Total() != api.MaxPages {
		t.Fatalf("List %v, Total %d", got, r.Total())
	}
	// All was taken one by one, the last page with nothing left; then each page was put.
	if got, want := r.Drawn(), api.MaxPages+api.MaxPages; got != want {
		t.Errorf("Drawn %d, want %d", got, want)
	}
}

// 10.1, 10.2, 10.3: many calls, right ones and wrong ones, each held against the model; no two runs overlap or touch.
func TestMany(t *testing.T) {
	x := mixer(10)
	for _, pages := range []int{1, 2, 3, 7, 40, 150} {
		for _, draws := range [][]uint32{nil, x.draws(9, math.MaxUint32), x.draws(1000, 2), x.draws(1000, math.MaxUint32)} {
			p := newPair(pages, draws)
			for range 600 {
				switch at, n := x.below(pages+2)-1, x.below(min(pages, 9)+2)-1; x.below(5) {
				case 0, 1:
					p.take(t, n)
				case 2, 3:
					p.put(t, at, n)
				default:
					found(t, p.r, p.m, n)
				}
				apart(t, p.r.List())
			}
		}
	}
}

// apart asks that runs rise, and have a page between them that is not free.
func apart(t *testing.T, list []api.Run) {
	t.Helper()
	for i, run := range list {
		if run.N < 1 || i > 0 && list[i-1].At+list[i-1].N >= run.At {
			t.Fatalf("runs %v", list)
		}
	}
}

// 10.1, 10.2: of few pages each set of free ones, and of each of them every call.
func TestEverySet(t *testing.T) {
	const pages = 6
	for set := range 1 << pages {
		var free []api.Run
		for at := range pages {
			if set>>at&1 == 1 {
				free = append(free, api.Run{At: at, N: 1})
			}
		}
		for n := -1; n <= pages+1; n++ {
			p := cut(t, pages, nil, free...)
			found(t, p.r, p.m, n)
			p.take(t, n)
			for at := -1; at <= pages+1; at++ {
				cut(t, pages, nil, free...).put(t, at, n)
			}
		}
	}
}

// 10.4: whatever is drawn, all but Shape is the same; and Shape has the same keys.
func TestDrawsTurnShapeAlone(t *testing.T) {
	x := mixer(4)
	all := []*Runs{New(60, nil)}
	for _, draws := range [][]uint32{{}, {7}, {1, 2, 3, 4, 5, 6, 7, 8}, x.draws(900, 1), x.draws(900, 9), x.draws(900, math.MaxUint32)} {
		all = append(all, New(60, draws))
	}
	differ := false
	for range 500 {
		take, at, n := x.below(2) == 0, x.below(62)-1, x.below(9)-1
		want := call(all[0], take, at, n)
		for _, r := range all[1:] {
			if got := call(r, take, at, n); !slices.Equal(got, want) {
				t.Fatalf("of other draws %v, want %v", got, want)
			}
			if !slices.Equal(keys(r), keys(all[0])) {
				t.Fatalf("keys %v, want %v", keys(r), keys(all[0]))
			}
			differ = differ || !slices.Equal(r.Shape(), all[0].Shape())
		}
	}
	if !differ {
		t.Error("no draws turned Shape")
	}
}

// call makes one call, and tells its answers and those of all other calls but Shape.
func call(r *Runs, take bool, at, n int) []int {
	var told []int
	if take {
		at, e := r.Take(n)
		told = append(told, at, int(e))
	} else {
		told = append(told, int(r.Put(at, n)))
	}
	told = append(told, r.Total(), r.Drawn())
	for n := range 10 {
		at, ok := r.Find(n)
		told = append(told, at)
		if ok {
			told = append(told, 1)
		}
	}
	for _, run := range r.List() {
		told = append(told, run.At, run.N)
	}
	return told
}

func keys(r *Runs) []int {
	var list []int
	for _, n := range r.Shape() {
		list = append(list, n.Key)
	}
	slices.Sort(list)
	return list
}

// R4: the draws that were handed in are neither changed nor kept, their spare room neither.
func TestDrawsHandedIn(t *testing.T) {
	draws := []uint32{1, 2, 3, 4, 5, 6}
	r := New(9, draws[:3])
	clear(draws[:3])
	r.Take(9)
	r.Put(0, 1) // 2
	r.Put(4, 3) // 3
	r.Put(2, 1) // 0, not 4
	want := nodes(3*8192+4, 0, 8192, 1, 8192+2, 2)
	if got := r.Shape(); !slices.Equal(got, want) {
		t.Errorf("Shape %v, want %v", got, want)
	}
	if !slices.Equal(draws, []uint32{0, 0, 0, 4, 5, 6}) {
		t.Errorf("draws %v", draws)
	}
}

// R4: nothing done to what List and Shape answered, their spare room too, turns the runs.
func TestNewMemory(t *testing.T) {
	p := cut(t, 12, []uint32{3, 1, 2}, api.Run{At: 0, N: 2}, api.Run{At: 4, N: 2}, api.Run{At: 8, N: 3})
	for range 3 {
		list, shape := p.r.List(), p.r.Shape()
		list, shape = list[:cap(list)], shape[:cap(shape)]
		for i := range list {
			list[i] = api.Run{At: -1, N: -1}
		}
		for i := range shape {
			shape[i] = api.Node{Key: -1, Depth: -1}
		}
		same(t, p.r, p.m)
	}
	p.put(t, 2, 2)
	p.take(t, 3)
}

// R1: asked twice the same is told; and of two nothing is shared.
func TestAskedTwice(t *testing.T) {
	p, q := newPair(10, []uint32{1, 2}), newPair(10, []uint32{1, 2})
	p.take(t, 4)
	same(t, q.r, q.m)
	for range 2 {
		same(t, p.r, p.m)
		for n := -1; n < 12; n++ {
			found(t, p.r, p.m, n)
		}
	}
	q.take(t, 10)
	same(t, p.r, p.m)
}

// R6: nil runs have no pages, and take none.
func TestNil(t *testing.T) {
	var r *Runs
	for _, n := range []int{math.MinInt, -1, 0, 1, math.MaxInt} {
		if at, ok := r.Find(n); at != 0 || ok {
			t.Errorf("Find %d: %d %v", n, at, ok)
		}
		if at, e := r.Take(n); at != 0 || e != api.ErrNone {
			t.Errorf("Take %d: %d %v", n, at, e)
		}
		if e := r.Put(n, n); e != api.ErrNone {
			t.Errorf("Put %d: %v", n, e)
		}
	}
	if len(r.List()) != 0 || r.Total() != 0 || r.Drawn() != 0 || len(r.Shape()) != 0 {
		t.Errorf("List %v, Total %d, Drawn %d, Shape %v", r.List(), r.Total(), r.Drawn(), r.Shape())
	}
}

// R1: runs that New did not make have no pages.
func TestNotMade(t *testing.T) {
	r := &Runs{}
	if at, ok := r.Find(1); at != 0 || ok {
		t.Errorf("Find: %d %v", at, ok)
	}
	if at, e := r.Take(1); at != 0 || e != api.ErrFull {
		t.Errorf("Take: %d %v", at, e)
	}
	if e := r.Put(0, 1); e != api.ErrArg {
		t.Errorf("Put: %v", e)
	}
	if len(r.List()) != 0 || r.Total() != 0 || r.Drawn() != 0 || len(r.Shape()) != 0 {
		t.Errorf("List %v, Total %d, Drawn %d, Shape %v", r.List(), r.Total(), r.Drawn(), r.Shape())
	}
}
