package treap

import (
	"math"
	"slices"
	"testing"

	"dustpan/api"
)

// item is a key with its draw and its value.
type item struct {
	key   int
	draw  uint32
	value int
}

// model is a tree as a list of items whose keys rise.
type model []item

func (m model) find(key int) (int, bool) {
	return slices.BinarySearchFunc(m, key, func(x item, key int) int {
		switch {
		case x.key < key:
			return -1
		case x.key > key:
			return 1
		}
		return 0
	})
}

func (m *model) put(x item) bool {
	i, there := m.find(x.key)
	if there {
		return false
	}
	*m = slices.Insert(*m, i, x)
	return true
}

func (m *model) drop(key int) (int, bool) {
	i, there := m.find(key)
	if !there {
		return 0, false
	}
	v := (*m)[i].value
	*m = slices.Delete(*m, i, i+1)
	return v, true
}

func (m model) keys() []int {
	list := []int{}
	for _, x := range m {
		list = append(list, x.key)
	}
	return list
}

// shape is the one tree of the items, by its definition: above all stands the greatest draw, of these the least key.
func (m model) shape(depth int) []api.Node {
	if len(m) == 0 {
		return nil
	}
	top := 0
	for i, x := range m {
		if x.draw > m[top].draw {
			top = i
		}
	}
	list := []api.Node{{Key: m[top].key, Depth: depth}}
	list = append(list, m[:top].shape(depth+1)...)
	return append(list, m[top+1:].shape(depth+1)...)
}

// modelOf is the model of items that came in any order, no key twice.
func modelOf(items []item) model {
	var m model
	for _, x := range items {
		m.put(x)
	}
	return m
}

// treeOf is a tree into which the items were put in their order.
func treeOf(t *testing.T, items []item) *Treap[int] {
	t.Helper()
	p := New[int]()
	for _, x := range items {
		if !p.Put(x.key, x.draw, x.value) {
			t.Fatalf("Put %v: false", x)
		}
	}
	return p
}

// same holds all that a tree tells of itself against a model.
func same(t *testing.T, p *Treap[int], m model) {
	t.Helper()
	if got := p.Len(); got != len(m) {
		t.Fatalf("Len %d, want %d", got, len(m))
	}
	if got := p.Keys(); !slices.Equal(got, m.keys()) {
		t.Fatalf("Keys %v, want %v", got, m.keys())
	}
	if got, want := p.Shape(), m.shape(0); !slices.Equal(got, want) {
		t.Fatalf("Shape %v, want %v", got, want)
	}
	for _, x := range m {
		if v, ok := p.Get(x.key); v != x.value || !ok {
			t.Fatalf("Get %d: %d %v, want %d", x.key, v, ok, x.value)
		}
	}
}

// asked holds Get and Ceil of a key, which may be there or not, against a model.
func asked(t *testing.T, p *Treap[int], m model, key int) {
	t.Helper()
	i, there := m.find(key)
	want := item{}
	if there {
		want = m[i]
	}
	if v, ok := p.Get(key); v != want.value || ok != there {
		t.Fatalf("Get %d: %d %v, want %d %v", key, v, ok, want.value, there)
	}
	want = item{}
	if i < len(m) {
		want = m[i]
	}
	if k, v, ok := p.Ceil(key); k != want.key || v != want.value || ok != (i < len(m)) {
		t.Fatalf("Ceil %d: %d %d %v, want %v %v", key, k, v, ok, want, i < len(m))
	}
}

// orders are all orders of the numbers below n.
func orders(n int) [][]int {
	if n == 0 {
		return [][]int{nil}
	}
	var list [][]int
	for _, o := range orders(n - 1) {
		for at := 0; at <= len(o); at++ {
			list = append(list, slices.Insert(slices.Clone(o), at, n-1))
		}
	}
	return list
}

// mixer tells numbers that look as if they were drawn, always the same ones.
type mixer uint64

func (x *mixer) next() uint64 {
	*x += 0x9e3779b97f4a7c15
	z := uint64(*x)
	z = (z ^ z>>30) * 0xbf58476d1ce4e5b9
	z = (z ^ z>>27) * 0x94d049bb133111eb
	return z ^ z>>31
}

func (x *mixer) below(n int) int { return int(x.next() % uint64(n)) }

// mixed is the numbers below n, in some order.
func (x *mixer) mixed(n int) []int {
	list := make([]int, n)
	for i := range list {
		at := x.below(i + 1)
		list[i], list[at] = list[at], i
	}
	return list
}

// 9.1, 9.2: the chapter's example, and what its keys tell on the way.
func TestExamples(t *testing.T) {
	p := New[string]()
	if !p.Put(1, 5, "a") || !p.Put(2, 9, "b") || !p.Put(3, 5, "c") {
		t.Fatal("Put of what was not there: false")
	}
	if got, want := p.Shape(), []api.Node{{Key: 2, Depth: 0}, {Key: 1, Depth: 1}, {Key: 3, Depth: 1}}; !slices.Equal(got, want) {
		t.Errorf("Shape %v, want %v", got, want)
	}
	if got := p.Keys(); !slices.Equal(got, []int{1, 2, 3}) || p.Len() != 3 {
		t.Errorf("Keys %v, Len %d", got, p.Len())
	}
	for i, want := range []string{"a", "b", "c"} {
		if v, ok := p.Get(i + 1); v != want || !ok {
			t.Errorf("Get %d: %q %v, want %q", i+1, v, ok, want)
		}
	}
}

// 9.1, 9.2, R3: of no keys, and of none any more, nothing is told.
func TestNoKeys(t *testing.T) {
	gone := New[int]()
	gone.Put(7, 7, 7)
	if v, ok := gone.Drop(7); v != 7 || !ok {
		t.Fatalf("Drop of the only key: %d %v", v, ok)
	}
	for name, p := range map[string]*Treap[int]{"new": New[int](), "gone": gone} {
		if p == nil {
			t.Fatalf("%s: nil", name)
		}
		same(t, p, nil)
		for _, key := range []int{math.MinInt, -1, 0, 1, 7, math.MaxInt} {
			asked(t, p, nil, key)
			if v, ok := p.Drop(key); v != 0 || ok {
				t.Errorf("%s: Drop %d: %d %v", name, key, v, ok)
			}
		}
		same(t, p, nil)
	}
}

// 9.1, 9.2: of one key, whatever the key and the draw.
func TestOneKey(t *testing.T) {
	for _, key := range []int{math.MinInt, math.MinInt + 1, -1, 0, 1, math.MaxInt - 1, math.MaxInt} {
		for _, draw := range []uint32{0, 1, math.MaxUint32} {
			m := model{{key, draw, 5}}
			p := treeOf(t, m)
			same(t, p, m)
			for _, k := range []int{math.MinInt, key, math.MaxInt} {
				asked(t, p, m, k)
			}
			if key > math.MinInt {
				asked(t, p, m, key-1)
			}
			if key < math.MaxInt {
				asked(t, p, m, key+1)
			}
			if v, ok := p.Drop(key); v != 5 || !ok {
				t.Errorf("Drop %d: %d %v", key, v, ok)
			}
			same(t, p, nil)
		}
	}
}

// 9.1, R6: a nil tree has no keys, and takes none.
func TestNil(t *testing.T) {
	var p *Treap[string]
	if p.Put(1, 1, "a") {
		t.Error("Put: true")
	}
	if v, ok := p.Drop(1); v != "" || ok {
		t.Errorf("Drop: %q %v", v, ok)
	}
	if v, ok := p.Get(1); v != "" || ok {
		t.Errorf("Get: %q %v", v, ok)
	}
	if k, v, ok := p.Ceil(math.MinInt); k != 0 || v != "" || ok {
		t.Errorf("Ceil: %d %q %v", k, v, ok)
	}
	if p.Len() != 0 || len(p.Keys()) != 0 || len(p.Shape()) != 0 {
		t.Errorf("Len %d, Keys %v, Shape %v", p.Len(), p.Keys(), p.Shape())
	}
}

// 9.1, 9.2: the least and the greatest int, and the draws 0 and the greatest, are like any other.
func TestEnds(t *testing.T) {
	keys := []int{math.MinInt, math.MinInt + 1, -1, 0, 1, math.MaxInt - 1, math.MaxInt}
	draws := []uint32{0, 1, 1 << 31, math.MaxUint32 - 1, math.MaxUint32}
	for turn := range len(keys) * len(draws) {
		var m model
		p := New[int]()
		for i, key := range keys {
			x := item{key, draws[(i*turn+turn/len(keys))%len(draws)], i + 1}
			m.put(x)
			p.Put(x.key, x.draw, x.value)
			same(t, p, m)
			for _, k := range keys {
				asked(t, p, m, k)
			}
		}
		for _, key := range []int{math.MaxInt, math.MinInt} {
			want, _ := m.drop(key)
			if v, ok := p.Drop(key); v != want || !ok {
				t.Fatalf("Drop %d: %d %v, want %d", key, v, ok, want)
			}
			asked(t, p, m, key)
		}
		same(t, p, m)
	}
}

// 9.1, R5: a key that is put again, wherever its new draw would lay it, stays with its draw and its value.
func TestPutAgain(t *testing.T) {
	m := model{{-3, 4, 1}, {0, 9, 2}, {2, 4, 3}, {5, 0, 4}, {9, math.MaxUint32, 5}}
	p := treeOf(t, m)
	for _, x := range m {
		for _, draw := range []uint32{0, 1, 4, 5, 9, 10, math.MaxUint32 - 1, math.MaxUint32} {
			if p.Put(x.key, draw, x.value+100) {
				t.Errorf("Put %d again, with draw %d: true", x.key, draw)
			}
			same(t, p, m)
		}
	}
}

// 9.1, 9.3: a key that was dropped may be put again, with another draw and another value.
func TestDropAndPutAgain(t *testing.T) {
	m := model{{1, 4, 10}, {2, 9, 20}, {3, 4, 30}, {4, 1, 40}}
	p := treeOf(t, m)
	for i, x := range slices.Clone(m) {
		for _, draw := range []uint32{0, 4, 9, math.MaxUint32, x.draw} {
			want, _ := m.drop(x.key)
			if v, ok := p.Drop(x.key); v != want || !ok {
				t.Fatalf("Drop %d: %d %v, want %d", x.key, v, ok, want)
			}
			if v, ok := p.Drop(x.key); v != 0 || ok {
				t.Fatalf("Drop %d twice: %d %v", x.key, v, ok)
			}
			same(t, p, m)
			asked(t, p, m, x.key)
			again := item{x.key, draw, 100*i + int(draw%7)}
			m.put(again)
			if !p.Put(again.key, again.draw, again.value) {
				t.Fatalf("Put %d again: false", x.key)
			}
			same(t, p, m)
		}
	}
}

// 9.1, 9.3: a key is dropped alone, be it the root or not, with none, one or two below it.
func TestDropOfEach(t *testing.T) {
	trees := map[string][]item{
		"two below":   {{1, 3, 1}, {2, 9, 2}, {3, 5, 3}},
		"left below":  {{1, 3, 1}, {2, 9, 2}},
		"right below": {{2, 9, 2}, {3, 5, 3}},
		"left, then right below": {
			{1, 7, 1}, {2, 5, 2}, {3, 6, 3}, {4, 9, 4}, {5, 1, 5}, {6, 8, 6}, {7, 2, 7},
		},
		"a way to the left":  {{1, 1, 1}, {2, 2, 2}, {3, 3, 3}, {4, 4, 4}},
		"a way to the right": {{1, 4, 1}, {2, 3, 2}, {3, 2, 3}, {4, 1, 4}},
		"of one draw":        {{1, 2, 1}, {2, 2, 2}, {3, 2, 3}, {4, 2, 4}},
	}
	for _, items := range trees {
		for _, x := range items {
			m, p := modelOf(items), treeOf(t, items)
			m.drop(x.key)
			if v, ok := p.Drop(x.key); v != x.value || !ok {
				t.Errorf("Drop %d of %v: %d %v", x.key, items, v, ok)
			}
			same(t, p, m)
			asked(t, p, m, x.key)
		}
	}
}

// 9.1, R3, R5: what is not there is not dropped, not found, and turns nothing.
func TestNotThere(t *testing.T) {
	m := model{{-4, 1, 1}, {0, 1, 2}, {4, 7, 3}, {8, 0, 4}}
	p := treeOf(t, m)
	for _, key := range []int{math.MinInt, -5, -3, -1, 1, 3, 5, 7, 9, math.MaxInt} {
		if v, ok := p.Drop(key); v != 0 || ok {
			t.Errorf("Drop %d: %d %v", key, v, ok)
		}
		if v, ok := p.Get(key); v != 0 || ok {
			t.Errorf("Get %d: %d %v", key, v, ok)
		}
		same(t, p, m)
	}
}

// 9.1, R3: Ceil of a key that is there, of one between two, below all, above all.
func TestCeil(t *testing.T) {
	p := treeOf(t, []item{{-10, 2, 1}, {0, 2, 2}, {10, 8, 3}, {20, 5, 4}})
	for _, c := range []struct {
		key, want, value int
		ok               bool
	}{
		{math.MinInt, -10, 1, true}, {-11, -10, 1, true}, {-10, -10, 1, true}, {-9, 0, 2, true}, {-1, 0, 2, true},
		{0, 0, 2, true}, {1, 10, 3, true}, {10, 10, 3, true}, {11, 20, 4, true}, {19, 20, 4, true}, {20, 20, 4, true},
		{21, 0, 0, false}, {math.MaxInt, 0, 0, false},
	} {
		if k, v, ok := p.Ceil(c.key); k != c.want || v != c.value || ok != c.ok {
			t.Errorf("Ceil %d: %d %d %v, want %v", c.key, k, v, ok, c)
		}
	}
}

// 9.2, 9.3: of each choice of draws for a few keys, and each order in which they come, the tree is the one there is.
func TestEveryOrder(t *testing.T) {
	const n = 5
	all := orders(n)
	for choice := range 3 * 3 * 3 * 3 * 3 {
		var items []item
		for key, c := 0, choice; key < n; key, c = key+1, c/3 {
			items = append(items, item{key, uint32(c % 3), 10 + key})
		}
		want := model(items).shape(0)
		for _, order := range all {
			p := New[int]()
			for _, key := range order {
				p.Put(key, items[key].draw, items[key].value)
			}
			if got := p.Shape(); !slices.Equal(got, want) {
				t.Fatalf("%v in the order %v: Shape %v, want %v", items, order, got, want)
			}
		}
	}
}

// 9.3: whichever of the keys go again, and in whichever order, the tree is the one of those that stay.
func TestEveryWayOut(t *testing.T) {
	const n = 5
	all := orders(n)
	for choice := range 2 * 2 * 2 * 2 * 2 {
		var items []item
		for key := range n {
			items = append(items, item{key, uint32(choice >> key & 1), 10 + key})
		}
		for i, order := range all {
			m := modelOf(items)
			p := New[int]()
			for _, key := range all[(i*31+7)%len(all)] {
				p.Put(key, items[key].draw, items[key].value)
			}
			for _, key := range order {
				want, _ := m.drop(key)
				if v, ok := p.Drop(key); v != want || !ok {
					t.Fatalf("Drop %d: %d %v, want %d", key, v, ok, want)
				}
				if got, want := p.Shape(), m.shape(0); !slices.Equal(got, want) {
					t.Fatalf("%v, dropped in the order %v up to %d: Shape %v, want %v", items, order, key, got, want)
				}
			}
			same(t, p, nil)
		}
	}
}

// 9.1, 9.2, 9.3: hundreds of keys that come, and go, rising, falling and mixed, with draws of several kinds.
func TestHundreds(t *testing.T) {
	const n = 400
	x := mixer(9)
	rising, falling := make([]int, n), make([]int, n)
	for i := range n {
		rising[i], falling[i] = i, n-1-i
	}
	ways := [][]int{rising, falling, x.mixed(n), x.mixed(n)}
	for name, draw := range map[string]func(i int) uint32{
		"alike":    func(int) uint32 { return 3 },
		"0":        func(int) uint32 { return 0 },
		"greatest": func(int) uint32 { return math.MaxUint32 },
		"rising":   func(i int) uint32 { return uint32(i) },
		"falling":  func(i int) uint32 { return uint32(n - i) },
		"two":      func(i int) uint32 { return uint32(i % 2 * math.MaxUint32) },
		"mixed":    func(i int) uint32 { y := mixer(i); return uint32(y.next()) },
		"a few":    func(i int) uint32 { y := mixer(i); return uint32(y.next() % 9) },
	} {
		for in, way := range ways {
			var items []item
			for _, i := range way {
				items = append(items, item{3*i - n, draw(i), 7 * i})
			}
			p, m := treeOf(t, items), modelOf(items)
			same(t, p, m)
			for key := -n - 2; key <= 2*n+2; key++ {
				asked(t, p, m, key)
			}
			out := ways[(in+1)%len(ways)]
			for c, i := range out {
				want, _ := m.drop(3*i - n)
				if v, ok := p.Drop(3*i - n); v != want || !ok {
					t.Fatalf("%s: Drop %d: %d %v, want %d", name, 3*i-n, v, ok, want)
				}
				if c%57 == 0 {
					same(t, p, m)
				}
			}
			same(t, p, nil)
		}
	}
}

// 9.1, 9.2, 9.3: keys come and go, some of them that are there already, or not at all.
func TestComeAndGo(t *testing.T) {
	for _, most := range []int{1, 2, 8, 1 << 32} {
		x := mixer(most)
		var m model
		p := New[int]()
		for step := range 3000 {
			y := item{x.below(120) - 60, uint32(x.below(most)), step + 1}
			if x.below(5) < 3 {
				if got, want := p.Put(y.key, y.draw, y.value), m.put(y); got != want {
					t.Fatalf("Put %v: %v, want %v", y, got, want)
				}
			} else {
				want, there := m.drop(y.key)
				if v, ok := p.Drop(y.key); v != want || ok != there {
					t.Fatalf("Drop %d: %d %v, want %d %v", y.key, v, ok, want, there)
				}
			}
			same(t, p, m)
			asked(t, p, m, x.below(130)-65)
		}
	}
}

// 9.1, 9.2, R1: draws all alike make a tree as deep as it has keys.
func TestDeep(t *testing.T) {
	const n = 1 << 20
	p := New[int]()
	for key := n - 1; key >= 0; key-- {
		if !p.Put(key, 1, -key) {
			t.Fatalf("Put %d: false", key)
		}
	}
	if p.Len() != n {
		t.Fatalf("Len %d", p.Len())
	}
	for i, key := range p.Keys() {
		if key != i {
			t.Fatalf("Keys: %d at %d", key, i)
		}
	}
	for i, node := range p.Shape() {
		if node != (api.Node{Key: i, Depth: i}) {
			t.Fatalf("Shape: %v at %d", node, i)
		}
	}
	if k, v, ok := p.Ceil(n - 1); k != n-1 || v != 1-n || !ok {
		t.Errorf("Ceil: %d %d %v", k, v, ok)
	}
	// A greater draw in the midst parts all of it in two.
	const midst = n / 2
	p.Drop(midst)
	p.Put(midst, 2, 5)
	shape := p.Shape()
	if shape[0] != (api.Node{Key: midst}) || shape[midst] != (api.Node{Key: midst - 1, Depth: midst}) || shape[midst+1] != (api.Node{Key: midst + 1, Depth: 1}) {
		t.Errorf("Shape: %v %v %v", shape[0], shape[midst], shape[midst+1])
	}
	if v, ok := p.Drop(midst); v != 5 || !ok || p.Len() != n-1 {
		t.Errorf("Drop: %d %v, Len %d", v, ok, p.Len())
	}
	if shape = p.Shape(); shape[0] != (api.Node{}) || shape[n-2] != (api.Node{Key: n - 1, Depth: n - 2}) {
		t.Errorf("Shape: %v %v", shape[0], shape[n-2])
	}
}

// tells puts two values of a type, and asks for them in each way; zero is what stands beside a false.
func tells[V any](t *testing.T, a, b, zero V, equal func(x, y V) bool) {
	t.Helper()
	p := New[V]()
	if !p.Put(1, 1, a) || !p.Put(2, 2, b) || p.Put(1, 9, b) {
		t.Fatalf("%T: Put", a)
	}
	if v, ok := p.Get(1); !equal(v, a) || !ok {
		t.Errorf("%T: Get: %v", a, ok)
	}
	if k, v, ok := p.Ceil(2); k != 2 || !equal(v, b) || !ok {
		t.Errorf("%T: Ceil: %d %v", a, k, ok)
	}
	if v, ok := p.Drop(2); !equal(v, b) || !ok {
		t.Errorf("%T: Drop: %v", a, ok)
	}
	if v, ok := p.Drop(2); !equal(v, zero) || ok {
		t.Errorf("%T: Drop twice: %v", a, ok)
	}
	if v, ok := p.Get(2); !equal(v, zero) || ok {
		t.Errorf("%T: Get of what is gone: %v", a, ok)
	}
	if k, v, ok := p.Ceil(2); k != 0 || !equal(v, zero) || ok {
		t.Errorf("%T: Ceil of what is gone: %d %v", a, k, ok)
	}
}

func alike[V comparable](x, y V) bool { return x == y }

// 9.1, R3: values may be of any type, also of those that can't be held against each other.
func TestValues(t *testing.T) {
	tells(t, 4, -9, 0, alike)
	tells(t, "a", "bc", "", alike)
	tells(t, true, false, false, alike)
	tells(t, struct{}{}, struct{}{}, struct{}{}, alike)
	tells(t, api.Run{At: 3, N: 5}, api.Run{At: 9, N: 1}, api.Run{}, alike)
	tells(t, [3]byte{1, 2, 3}, [3]byte{3}, [3]byte{}, alike)
	tells(t, new(int), new(int), nil, alike)
	tells(t, any(4), any("x"), any(nil), alike)
	tells(t, math.Inf(1), -0.5, 0, alike)
	tells(t, []int{1, 2}, []int{3}, nil, slices.Equal)
	tells(t, map[string]int{"a": 1}, map[string]int{}, nil, func(x, y map[string]int) bool {
		return (x == nil) == (y == nil) && len(x) == len(y) && x["a"] == y["a"]
	})
	tells(t, func() int { return 1 }, func() int { return 2 }, nil, func(x, y func() int) bool {
		return (x == nil) == (y == nil) && (x == nil || x() == y())
	})
	inner := New[string]()
	inner.Put(1, 1, "deep")
	tells(t, inner, New[string](), nil, alike)
}

// 9.2, R4: what Keys and Shape answer, spare room too, is shared neither with the tree nor with another answer.
func TestNewMemory(t *testing.T) {
	var m model
	p := New[int]()
	for i := range 40 {
		x := item{i * 7 % 40, uint32(i * 5 % 11), i}
		m.put(x)
		p.Put(x.key, x.draw, x.value)
		keys, shape := p.Keys(), p.Shape()
		otherKeys, otherShape := p.Keys(), p.Shape()
		keys, shape = keys[:cap(keys)], shape[:cap(shape)]
		for k := range keys {
			keys[k] = -1
		}
		for k := range shape {
			shape[k] = api.Node{Key: -1, Depth: -1}
		}
		keys, shape = append(keys, -2), append(shape, api.Node{Key: -2})
		same(t, p, m)
		if !slices.Equal(otherKeys, m.keys()) || !slices.Equal(otherShape, m.shape(0)) {
			t.Fatalf("an answer was turned by way of another one: %v %v", otherKeys, otherShape)
		}
	}
	keys, shape := p.Keys(), p.Shape()
	wantKeys, wantShape := slices.Clone(keys), slices.Clone(shape)
	for key := range 40 {
		p.Drop(key)
		p.Put(key+100, 3, key)
	}
	if !slices.Equal(keys, wantKeys) || !slices.Equal(shape, wantShape) {
		t.Errorf("an answer was turned by later calls: %v %v", keys, shape)
	}
}

// R1: what is asked turns nothing, and two trees have nothing in common.
func TestAskedTwice(t *testing.T) {
	m := model{{1, 3, 10}, {4, 3, 40}, {6, 8, 60}}
	p, other := treeOf(t, m), treeOf(t, m)
	for range 2 {
		same(t, p, m)
		for key := range 9 {
			asked(t, p, m, key)
		}
	}
	other.Drop(6)
	other.Put(5, 9, 50)
	same(t, p, m)
	p.Drop(1)
	same(t, other, model{{1, 3, 10}, {4, 3, 40}, {5, 9, 50}})
}

// 'Ways': keys are gone through by a range over a function, which may be left on the way.
func TestLeftOnTheWay(t *testing.T) {
	m := model{{1, 5, 1}, {2, 9, 2}, {3, 5, 3}, {4, 1, 4}, {5, 7, 5}}
	p := treeOf(t, m)
	for n := 1; n <= len(m); n++ {
		var keys, down []int
		for key := range p.rising() {
			if keys = append(keys, key); len(keys) == n {
				break
			}
		}
		for key, depth := range p.fromRoot() {
			if down = append(down, key, depth); len(down) == 2*n {
				break
			}
		}
		if !slices.Equal(keys, p.Keys()[:n]) {
			t.Errorf("the first %d keys: %v", n, keys)
		}
		for i, node := range p.Shape()[:n] {
			if down[2*i] != node.Key || down[2*i+1] != node.Depth {
				t.Errorf("the first %d from the root on: %v", n, down)
			}
		}
	}
}
