package bitmap

import (
	"math"
	"slices"
	"testing"

	"dustpan/api"
)

const (
	all  = math.MaxUint64
	most = 1 << 20 // what the chapter bounds Parts by
)

// far are numbers that lie beyond every list.
var far = []int{math.MinInt, math.MinInt + 1, math.MinInt32, -most, math.MaxInt32, math.MaxInt - 64, math.MaxInt - 1, math.MaxInt}

// lists are what most tests go through: none, one and many words, with runs at the beginning, at the end and across words.
func lists() [][]uint64 {
	hand := [][]uint64{
		nil, {}, {0}, {all}, {5}, {1}, {1 << 63}, {all - 1}, {1<<63 - 1}, {0x5555555555555555},
		{0, 0}, {all, all}, {0, all}, {all, 0}, {1 << 63, 1}, {1<<63 - 1, all - 1}, {7, all - 7}, {1 << 63, 2},
		{0, 0, 0}, {all, all, all}, {all, 0, all}, {0, all, 0}, {1<<63 | 7, all, 1}, {all, 1<<63 - 1, all}, {1, 0, 1 << 63},
	}
	for _, dense := range []bool{false, true} {
		for words := 1; words <= 3; words++ {
			hand = append(hand, drawn(words, dense))
		}
	}
	return hand
}

// drawn is a list of n words with few bits set, or with few not set, always the same.
func drawn(n int, dense bool) []uint64 {
	list, x := make([]uint64, n), uint64(88172645463325252)
	draw := func() uint64 {
		x ^= x << 13
		x ^= x >> 7
		x ^= x << 17
		return x
	}
	for i := range list {
		list[i] = draw() & draw()
		if dense {
			list[i] = ^list[i]
		}
	}
	return list
}

// flat is l bit by bit, reckoned by each bit's worth, so that the tests lean on no code of the package.
func flat(l []uint64) []bool {
	bits := make([]bool, 0, 64*len(l))
	for _, w := range l {
		for range 64 {
			bits = append(bits, w%2 == 1)
			w /= 2
		}
	}
	return bits
}

// packed is the list of the bits of flat.
func packed(bits []bool) []uint64 {
	l := make([]uint64, len(bits)/64)
	for i := len(bits) - 1; i >= 0; i-- {
		l[i/64] *= 2
		if bits[i] {
			l[i/64]++
		}
	}
	return l
}

// around are the numbers at and beside each edge of k bits' words, and far ones.
func around(k int) []int {
	list := slices.Clone(far)
	for edge := -64; edge <= k+64; edge += 64 {
		list = append(list, edge-2, edge-1, edge, edge+1, edge+2, edge+31)
	}
	return list
}

func hold(n, k int) int {
	if n < 0 {
		return 0
	}
	if n > k {
		return k
	}
	return n
}

// unturned fails unless l is still what it was ahead of the test.
func unturned(t *testing.T, l, was []uint64) {
	t.Helper()
	if !slices.Equal(l, was) {
		t.Fatalf("R4: the list was %x, and is %x", was, l)
	}
}

// 3.1
func TestHas(t *testing.T) {
	for _, l := range lists() {
		was, bits := slices.Clone(l), flat(l)
		for i := -130; i < len(bits)+130; i++ {
			want := i >= 0 && i < len(bits) && bits[i]
			if got := Has(l, i); got != want {
				t.Fatalf("Has(%x, %d): %t, want %t", l, i, got, want)
			}
		}
		for _, i := range far {
			if Has(l, i) {
				t.Fatalf("Has(%x, %d): true", l, i)
			}
		}
		unturned(t, l, was)
	}
}

// 3.1: spare room of the list is none of its bits.
func TestHasSpareRoom(t *testing.T) {
	room := []uint64{0, all, all}
	if l := room[:1]; Has(l, 64) || Has(l, 128) || Count(l, 192) != 0 {
		t.Error("bits of the list's spare room are told")
	}
	if got := Runs(room[:1], 192); !slices.Equal(got, []api.Run{{At: 0, N: 64}}) {
		t.Errorf("Runs: %v, want one of 64", got)
	}
	room = []uint64{all, 0}
	if i, ok := Next(room[:1], 128, 0); i != 0 || ok {
		t.Errorf("Next: %d, %t, want 0, false", i, ok)
	}
	if l, ok := Turn(room[:1], 64, 1, true); len(l) != 0 || ok {
		t.Errorf("Turn: %v, %t, want none, false", l, ok)
	}
}

// leastUnset is what Next has to answer.
func leastUnset(bits []bool, n, from int) (int, bool) {
	for i := range bits {
		if i >= from && i < n && !bits[i] {
			return i, true
		}
	}
	return 0, false
}

// 3.1
func TestNext(t *testing.T) {
	for _, l := range lists() {
		was, bits := slices.Clone(l), flat(l)
		for _, n := range around(len(bits)) {
			for _, from := range around(len(bits)) {
				want, ok := leastUnset(bits, n, from)
				if i, is := Next(l, n, from); i != want || is != ok {
					t.Fatalf("Next(%x, %d, %d): %d, %t, want %d, %t", l, n, from, i, is, want, ok)
				}
			}
		}
		unturned(t, l, was)
	}
}

// 3.1
func TestNextByHand(t *testing.T) {
	l := []uint64{1<<63 | 7, all, 1}
	for _, c := range []struct {
		n, from, want int
		ok            bool
	}{
		{192, 0, 3, true}, {192, -1, 3, true}, {192, math.MinInt, 3, true}, {192, 3, 3, true}, {192, 4, 4, true},
		{4, 0, 3, true}, {3, 0, 0, false}, {0, 0, 0, false}, {-1, 0, 0, false}, {-1, -2, 0, false},
		{192, 63, 129, true}, {130, 63, 129, true}, {129, 63, 0, false}, {192, 191, 191, true}, {192, 192, 0, false},
		{193, 192, 0, false}, {math.MaxInt, 191, 191, true}, {math.MaxInt, 192, 0, false}, {math.MaxInt, math.MaxInt, 0, false},
	} {
		if i, ok := Next(l, c.n, c.from); i != c.want || ok != c.ok {
			t.Errorf("Next(l, %d, %d): %d, %t, want %d, %t", c.n, c.from, i, ok, c.want, c.ok)
		}
	}
	if i, ok := Next(nil, math.MaxInt, 0); i != 0 || ok {
		t.Errorf("Next(nil): %d, %t, want 0, false", i, ok)
	}
}

// turned is what Turn has to answer.
func turned(bits []bool, at, n int, on bool) ([]uint64, bool) {
	k := len(bits)
	if at < 0 || n < 0 || at > k || n > k || at+n > k {
		return nil, false
	}
	bits = slices.Clone(bits)
	for i := range n {
		bits[at+i] = on
	}
	return packed(bits), true
}

// 3.1
func TestTurn(t *testing.T) {
	for _, l := range lists() {
		was, bits := slices.Clone(l), flat(l)
		for _, at := range around(len(bits)) {
			for _, n := range append(around(len(bits)), len(bits)-at, len(bits)-at+1) {
				for _, on := range []bool{true, false} {
					want, ok := turned(bits, at, n, on)
					if got, is := Turn(l, at, n, on); !slices.Equal(got, want) || is != ok {
						t.Fatalf("Turn(%x, %d, %d, %t): %x, %t, want %x, %t", l, at, n, on, got, is, want, ok)
					}
				}
			}
		}
		unturned(t, l, was)
	}
}

// 3.1: just as many bits as there are, one more, and sums that go round.
func TestTurnByHand(t *testing.T) {
	l := []uint64{5, 1 << 63}
	for _, c := range []struct {
		at, n int
		on    bool
		want  []uint64
		ok    bool
	}{
		{0, 128, true, []uint64{all, all}, true}, {0, 128, false, []uint64{0, 0}, true}, {63, 2, true, []uint64{1<<63 | 5, 1<<63 | 1}, true},
		{127, 1, false, []uint64{5, 0}, true}, {1, 1, true, []uint64{7, 1 << 63}, true}, {1, 1, false, []uint64{5, 1 << 63}, true},
		{64, 64, true, []uint64{5, all}, true}, {0, 64, false, []uint64{0, 1 << 63}, true},
		{0, 0, true, l, true}, {64, 0, true, l, true}, {128, 0, false, l, true},
		{0, 129, true, nil, false}, {1, 128, true, nil, false}, {127, 2, false, nil, false}, {128, 1, true, nil, false}, {129, 0, true, nil, false},
		{-1, 1, true, nil, false}, {-1, 0, true, nil, false}, {129, -1, true, nil, false}, {1, -1, false, nil, false},
		{math.MaxInt, 1, true, nil, false}, {1, math.MaxInt, true, nil, false}, {math.MaxInt, math.MaxInt, true, nil, false},
		{math.MinInt, math.MinInt, true, nil, false}, {math.MinInt, math.MaxInt, true, nil, false}, {math.MaxInt, math.MinInt, false, nil, false},
	} {
		if got, ok := Turn(l, c.at, c.n, c.on); !slices.Equal(got, c.want) || ok != c.ok {
			t.Errorf("Turn(l, %d, %d, %t): %x, %t, want %x, %t", c.at, c.n, c.on, got, ok, c.want, c.ok)
		}
	}
}

// 3.1: of an empty list no bit is turned, and none may be.
func TestTurnEmpty(t *testing.T) {
	for _, l := range [][]uint64{nil, {}} {
		if got, ok := Turn(l, 0, 0, true); len(got) != 0 || !ok {
			t.Errorf("Turn(none, 0, 0): %x, %t, want none, true", got, ok)
		}
		for _, c := range [][2]int{{0, 1}, {1, 0}, {-1, 1}, {0, -1}} {
			if got, ok := Turn(l, c[0], c[1], true); len(got) != 0 || ok {
				t.Errorf("Turn(none, %d, %d): %x, %t, want none, false", c[0], c[1], got, ok)
			}
		}
	}
}

// 3.1, R4: what Turn answers shares no memory with the list, not even the spare room of either.
func TestTurnNewMemory(t *testing.T) {
	for _, n := range []int{0, 1, 70, 128} {
		room := []uint64{1, 2, 3, 4}
		l := room[:2]
		got, ok := Turn(l, 0, n, true)
		if !ok {
			t.Fatalf("Turn(l, 0, %d): false", n)
		}
		want := slices.Clone(got)
		for i, spare := 0, got[:cap(got)]; i < len(spare); i++ {
			spare[i] = 99
		}
		unturned(t, room, []uint64{1, 2, 3, 4})
		again, _ := Turn(l, 0, n, true)
		for i := range room {
			room[i] = 77
		}
		if !slices.Equal(again, want) {
			t.Errorf("Turn(l, 0, %d): %x, and %x when the list was turned", n, want, again)
		}
	}
}

// 3.1, R4: an empty list's spare room is not handed out either.
func TestTurnEmptyNewMemory(t *testing.T) {
	room := []uint64{1, 2}
	got, _ := Turn(room[:0], 0, 0, false)
	_ = append(got, 99)
	unturned(t, room, []uint64{1, 2})
}

// 3.2
func TestCount(t *testing.T) {
	for _, l := range lists() {
		was, bits := slices.Clone(l), flat(l)
		numbers := around(len(bits))
		for n := range len(bits) {
			numbers = append(numbers, n)
		}
		for _, n := range numbers {
			want := 0
			for _, set := range bits[:hold(n, len(bits))] {
				if set {
					want++
				}
			}
			if got := Count(l, n); got != want {
				t.Fatalf("Count(%x, %d): %d, want %d", l, n, got, want)
			}
		}
		unturned(t, l, was)
	}
}

// 3.2
func TestCountByHand(t *testing.T) {
	l := []uint64{1<<63 | 7, all, 1}
	for _, c := range [][2]int{{math.MinInt, 0}, {-1, 0}, {0, 0}, {1, 1}, {2, 2}, {3, 3}, {63, 3}, {64, 4}, {65, 5}, {128, 68}, {129, 69}, {192, 69}, {193, 69}, {math.MaxInt, 69}} {
		if got := Count(l, c[0]); got != c[1] {
			t.Errorf("Count(l, %d): %d, want %d", c[0], got, c[1])
		}
	}
	if got := Count(nil, math.MaxInt); got != 0 {
		t.Errorf("Count(nil): %d, want 0", got)
	}
}

// unset is what Runs has to answer.
func unset(bits []bool) []api.Run {
	var list []api.Run
	for i, set := range bits {
		switch {
		case set:
		case i > 0 && !bits[i-1]:
			list[len(list)-1].N++
		default:
			list = append(list, api.Run{At: i, N: 1})
		}
	}
	return list
}

// 3.2
func TestRuns(t *testing.T) {
	for _, l := range lists() {
		was, bits := slices.Clone(l), flat(l)
		numbers := around(len(bits))
		for n := range len(bits) {
			numbers = append(numbers, n)
		}
		for _, n := range numbers {
			want := unset(bits[:hold(n, len(bits))])
			if got := Runs(l, n); !slices.Equal(got, want) {
				t.Fatalf("Runs(%x, %d): %v, want %v", l, n, got, want)
			}
		}
		unturned(t, l, was)
	}
}

// 3.2: the chapter's example; runs at the beginning, at the end and across words; n below 0, 0, and above how many bits there are.
func TestRunsByHand(t *testing.T) {
	for _, c := range []struct {
		l    []uint64
		n    int
		want []api.Run
	}{
		{[]uint64{5}, 4, []api.Run{{At: 1, N: 1}, {At: 3, N: 1}}}, {[]uint64{5}, 3, []api.Run{{At: 1, N: 1}}}, {[]uint64{5}, 64, []api.Run{{At: 1, N: 1}, {At: 3, N: 61}}},
		{[]uint64{8}, 4, []api.Run{{At: 0, N: 3}}}, {[]uint64{0, 0}, 128, []api.Run{{At: 0, N: 128}}}, {[]uint64{0, 0}, math.MaxInt, []api.Run{{At: 0, N: 128}}},
		{[]uint64{7, all - 7}, 128, []api.Run{{At: 3, N: 64}}}, {[]uint64{1 << 63, 2}, 128, []api.Run{{At: 0, N: 63}, {At: 64, N: 1}, {At: 66, N: 62}}},
		{[]uint64{all, 0, all}, 192, []api.Run{{At: 64, N: 64}}}, {[]uint64{all, 0, all}, 100, []api.Run{{At: 64, N: 36}}}, {[]uint64{all, 0, all}, 64, nil},
		{[]uint64{all}, 64, nil}, {[]uint64{0}, 0, nil}, {[]uint64{0}, -1, nil}, {[]uint64{0}, math.MinInt, nil}, {nil, 10, nil}, {[]uint64{}, math.MaxInt, nil},
	} {
		if got := Runs(c.l, c.n); !slices.Equal(got, c.want) {
			t.Errorf("Runs(%x, %d): %v, want %v", c.l, c.n, got, c.want)
		}
	}
}

// pieces is what Parts has to answer, bit by bit.
func pieces(at, n int) []api.Part {
	var list []api.Part
	for i := at; i < at+n; i++ {
		if i == at || i%64 == 0 {
			list = append(list, api.Part{Word: i / 64})
		}
		worth := uint64(1)
		for range i % 64 {
			worth *= 2
		}
		list[len(list)-1].Mask += worth
	}
	return list
}

// 3.2
func TestParts(t *testing.T) {
	for at := range 140 {
		for n := 1; n <= 200; n++ {
			if got, want := Parts(at, n), pieces(at, n); !slices.Equal(got, want) {
				t.Fatalf("Parts(%d, %d): %v, want %v", at, n, got, want)
			}
		}
	}
}

// 3.2: the chapter's example, and bits up to the edges of a word.
func TestPartsByHand(t *testing.T) {
	for _, c := range []struct {
		at, n int
		want  []api.Part
	}{
		{63, 2, []api.Part{{Word: 0, Mask: 1 << 63}, {Word: 1, Mask: 1}}}, {0, 1, []api.Part{{Word: 0, Mask: 1}}}, {63, 1, []api.Part{{Word: 0, Mask: 1 << 63}}},
		{0, 64, []api.Part{{Word: 0, Mask: all}}}, {0, 65, []api.Part{{Word: 0, Mask: all}, {Word: 1, Mask: 1}}}, {64, 64, []api.Part{{Word: 1, Mask: all}}},
		{5, 3, []api.Part{{Word: 0, Mask: 0xe0}}}, {60, 140, []api.Part{{Word: 0, Mask: 15 << 60}, {Word: 1, Mask: all}, {Word: 2, Mask: all}, {Word: 3, Mask: 255}}},
	} {
		if got := Parts(c.at, c.n); !slices.Equal(got, c.want) {
			t.Errorf("Parts(%d, %d): %v, want %v", c.at, c.n, got, c.want)
		}
	}
}

// 3.2: at is from 0 to 2^20, and n from 1 to 2^20.
func TestPartsBounds(t *testing.T) {
	for _, c := range [][2]int{{most, 1}, {most, 65}, {most - 1, 2}, {0, most - 1}, {0, most}, {1, most}, {most, most}, {most - 1, most - 1}} {
		if got, want := Parts(c[0], c[1]), pieces(c[0], c[1]); !slices.Equal(got, want) {
			t.Errorf("Parts(%d, %d): %d parts, want %d", c[0], c[1], len(got), len(want))
		}
	}
	for _, wrong := range append([]int{-2, -1, most + 1, most + 2}, far...) {
		for _, right := range []int{0, 1, 64, most} {
			if got := Parts(wrong, right); len(got) != 0 {
				t.Errorf("Parts(%d, %d): %d parts, want none", wrong, right, len(got))
			}
			if got := Parts(right, wrong); len(got) != 0 {
				t.Errorf("Parts(%d, %d): %d parts, want none", right, wrong, len(got))
			}
		}
		if got := Parts(wrong, wrong); len(got) != 0 {
			t.Errorf("Parts(%d, %d): %d parts, want none", wrong, wrong, len(got))
		}
	}
	for _, at := range []int{0, 1, 63, 64, most} {
		if got := Parts(at, 0); len(got) != 0 {
			t.Errorf("Parts(%d, 0): %d parts, want none", at, len(got))
		}
	}
}

// 3.2, R4: what is answered is new at each call.
func TestListsNewMemory(t *testing.T) {
	parts := Parts(63, 2)
	_ = append(parts[:0], api.Part{Word: 7}, api.Part{Word: 8})
	if got := Parts(63, 2); !slices.Equal(got, pieces(63, 2)) {
		t.Errorf("Parts(63, 2): %v when an answer was turned", got)
	}
	runs := Runs([]uint64{5}, 4)
	_ = append(runs[:0], api.Run{At: 7}, api.Run{At: 8})
	if got := Runs([]uint64{5}, 4); !slices.Equal(got, []api.Run{{At: 1, N: 1}, {At: 3, N: 1}}) {
		t.Errorf("Runs({5}, 4): %v when an answer was turned", got)
	}
}

// 3.3: between two runs there is a set bit, and Next and Count tell of the same bits as Runs.
func TestRunsApart(t *testing.T) {
	for _, l := range append(lists(), drawn(50, false), drawn(50, true)) {
		for _, n := range []int{0, 1, 63, 64, 65, 130, 64 * len(l), math.MaxInt} {
			k, free, end := hold(n, 64*len(l)), 0, 0
			for i, r := range Runs(l, n) {
				if r.N < 1 || r.At+r.N > k || i > 0 && r.At <= end {
					t.Fatalf("Runs(%x, %d): %v behind %d", l, n, r, end)
				}
				if i > 0 && !Has(l, end) || r.At > 0 && !Has(l, r.At-1) || r.At+r.N < k && !Has(l, r.At+r.N) {
					t.Fatalf("Runs(%x, %d): no set bit beside %v", l, n, r)
				}
				if at, ok := Next(l, n, end); at != r.At || !ok {
					t.Fatalf("Next(%x, %d, %d): %d, %t, want %d", l, n, end, at, ok, r.At)
				}
				free, end = free+r.N, r.At+r.N
			}
			if Count(l, n)+free != k {
				t.Fatalf("Runs(%x, %d): %d bits, and Count %d", l, n, free, Count(l, n))
			}
		}
	}
}

// 3.3: the Parts of a run are its bits, each once; turned on, all runs are gone.
func TestPartsOfRuns(t *testing.T) {
	for _, l := range append(lists(), drawn(50, false), drawn(50, true)) {
		seen := slices.Clone(l)
		for _, r := range Runs(l, math.MaxInt) {
			count := 0
			for _, p := range Parts(r.At, r.N) {
				if p.Mask == 0 || seen[p.Word]&p.Mask != 0 {
					t.Fatalf("Parts(%d, %d): %v has no bit, or one twice", r.At, r.N, p)
				}
				seen[p.Word] |= p.Mask
				for w := p.Mask; w != 0; w /= 2 {
					count += int(w % 2)
				}
			}
			if on, ok := Turn(l, r.At, r.N, true); !ok || Count(on, math.MaxInt) != Count(l, math.MaxInt)+count || count != r.N {
				t.Fatalf("Parts(%d, %d): %d bits", r.At, r.N, count)
			}
		}
		for at, w := range seen {
			if w != all {
				t.Fatalf("Parts of %x: word %d has bits of no run: %x", l, at, ^w)
			}
		}
	}
}
