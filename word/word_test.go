package word

import (
	"math"
	"slices"
	"testing"
)

const all = math.MaxUint64

// The words and numbers that most tests go through: none, one, some and all bits, and counts at and beyond the edges.
var (
	words = []uint64{
		0, 1, 2, 3, 10, 11, 1 << 31, 1 << 32, 1 << 62, 1 << 63, 1<<63 | 1, 1<<63 - 1, all - 1, all,
		0x5555555555555555, 0xaaaaaaaaaaaaaaaa, 0x8123456789abcdef, 0x00000000ffffffff, 0xffffffff00000000,
	}
	beyond = []int{math.MinInt, math.MinInt + 1, math.MinInt32, -65, -64, -2, -1, 65, 66, 127, 128, math.MaxInt32, math.MaxInt - 64, math.MaxInt - 1, math.MaxInt}
)

// numbers are 0 to 64, and those of beyond.
func numbers() []int {
	list := slices.Clone(beyond)
	for n := 0; n <= 64; n++ {
		list = append(list, n)
	}
	return list
}

// set asks one bit by its worth, so that the tests lean on no code of the package.
func set(w uint64, i int) bool {
	worth := uint64(1)
	for range i {
		worth *= 2
	}
	return w/worth%2 == 1
}

// made is the word of the bits for which is answers true.
func made(is func(i int) bool) uint64 {
	w, worth := uint64(0), uint64(1)
	for i := range 64 {
		if is(i) {
			w += worth
		}
		worth *= 2
	}
	return w
}

func clamp(n int) int {
	if n < 0 {
		return 0
	}
	if n > 64 {
		return 64
	}
	return n
}

func lies(at, n int) bool {
	return at >= 0 && at <= 64 && n >= 0 && n <= 64 && at+n <= 64
}

// 1.1
func TestOnes(t *testing.T) {
	for _, n := range numbers() {
		want := made(func(i int) bool { return i < clamp(n) })
		if got := Ones(n); got != want {
			t.Errorf("Ones(%d): %#x, want %#x", n, got, want)
		}
	}
}

// 1.1
func TestOnesByHand(t *testing.T) {
	for _, c := range []struct {
		n    int
		want uint64
	}{{-1, 0}, {0, 0}, {1, 1}, {4, 15}, {63, 1<<63 - 1}, {64, all}, {65, all}} {
		if got := Ones(c.n); got != c.want {
			t.Errorf("Ones(%d): %#x, want %#x", c.n, got, c.want)
		}
	}
}

// 1.1
func TestField(t *testing.T) {
	for _, w := range words {
		for _, at := range numbers() {
			for _, n := range numbers() {
				want := uint64(0)
				if lies(at, n) {
					want = made(func(i int) bool { return i < n && set(w, at+i) })
				}
				if got := Field(w, at, n); got != want {
					t.Fatalf("Field(%#x, %d, %d): %#x, want %#x", w, at, n, got, want)
				}
			}
		}
	}
}

// 1.1
func TestFieldByHand(t *testing.T) {
	const w = 0x8123456789abcdef
	for _, c := range []struct {
		at, n int
		want  uint64
	}{
		{0, 8, 0xef}, {8, 12, 0xbcd}, {60, 4, 8}, {63, 1, 1}, {0, 64, w},
		{0, 0, 0}, {64, 0, 0}, {64, 1, 0}, {63, 2, 0}, {1, 64, 0}, {0, 65, 0}, {65, -1, 0}, {-1, 1, 0}, {-4, 8, 0}, {4, -1, 0},
		{math.MaxInt, math.MaxInt, 0}, {math.MaxInt, 1, 0}, {math.MinInt, math.MinInt, 0}, {math.MinInt, math.MaxInt, 0},
	} {
		if got := Field(w, c.at, c.n); got != c.want {
			t.Errorf("Field(w, %d, %d): %#x, want %#x", c.at, c.n, got, c.want)
		}
	}
}

// values are what With is tried with for n bits: the edges of what fits, and what is just above.
func values(n int) []uint64 {
	most := made(func(i int) bool { return i < clamp(n) })
	return []uint64{0, 1, 2, most / 2, most - 1, most, most + 1, 1 << 63, all, 0x5555555555555555 & most}
}

// 1.1
func TestWith(t *testing.T) {
	for _, w := range words {
		for _, at := range numbers() {
			for _, n := range numbers() {
				for _, v := range values(n) {
					checkWith(t, w, at, n, v)
				}
			}
		}
	}
}

func checkWith(t *testing.T, w uint64, at, n int, v uint64) {
	t.Helper()
	ok := lies(at, n) && v <= made(func(i int) bool { return i < n })
	want := uint64(0)
	if ok {
		want = made(func(i int) bool {
			if i >= at && i < at+n {
				return set(v, i-at)
			}
			return set(w, i)
		})
	}
	if got, is := With(w, at, n, v); got != want || is != ok {
		t.Fatalf("With(%#x, %d, %d, %#x): %#x %v, want %#x %v", w, at, n, v, got, is, want, ok)
	}
}

// 1.1
func TestWithByHand(t *testing.T) {
	for _, c := range []struct {
		w     uint64
		at, n int
		v     uint64
		want  uint64
		ok    bool
	}{
		{0, 8, 4, 15, 0xf00, true}, {all, 8, 4, 0, all - 0xf00, true}, {all, 8, 4, 5, all - 0xa00, true},
		{0, 63, 1, 1, 1 << 63, true}, {5, 0, 64, all, all, true}, {all, 0, 64, 0, 0, true}, {7, 64, 0, 0, 7, true}, {7, 3, 0, 0, 7, true},
		{0, 8, 4, 16, 0, false}, {7, 3, 0, 1, 0, false}, {7, 64, 0, 1, 0, false}, {7, 0, 63, 1 << 63, 0, false},
		{7, 64, 1, 0, 0, false}, {7, 1, 64, 0, 0, false}, {7, -1, 1, 0, 0, false}, {7, 1, -1, 0, 0, false},
		{7, math.MaxInt, math.MaxInt, 0, 0, false}, {7, math.MinInt, math.MinInt, 0, 0, false},
	} {
		if got, ok := With(c.w, c.at, c.n, c.v); got != c.want || ok != c.ok {
			t.Errorf("With(%#x, %d, %d, %#x): %#x %v, want %#x %v", c.w, c.at, c.n, c.v, got, ok, c.want, c.ok)
		}
	}
}

// setPlaces is the places of all set bits, asked one by one.
func setPlaces(w uint64) []int {
	var list []int
	for i := range 64 {
		if set(w, i) {
			list = append(list, i)
		}
	}
	return list
}

// 1.2
func TestCount(t *testing.T) {
	for _, w := range words {
		if got, want := Count(w), len(setPlaces(w)); got != want {
			t.Errorf("Count(%#x): %d, want %d", w, got, want)
		}
	}
	for i := range 64 {
		if got := Count(1 << i); got != 1 {
			t.Errorf("Count(1 << %d): %d", i, got)
		}
	}
	if got := Count(all); got != 64 {
		t.Error("Count of all:", got)
	}
}

// 1.2
func TestLow(t *testing.T) {
	for _, w := range words {
		for _, n := range numbers() {
			want, ok := 0, false
			for i := clamp(n) - 1; i >= 0; i-- {
				if !set(w, i) {
					want, ok = i, true
				}
			}
			if got, is := Low(w, n); got != want || is != ok {
				t.Errorf("Low(%#x, %d): %d %v, want %d %v", w, n, got, is, want, ok)
			}
		}
	}
}

// 1.2
func TestLowByHand(t *testing.T) {
	for _, c := range []struct {
		w       uint64
		n, want int
		ok      bool
	}{
		{11, 64, 2, true}, {11, 3, 2, true}, {11, 2, 0, false}, {0, 1, 0, true}, {0, 0, 0, false}, {0, -1, 0, false},
		{1<<63 - 1, 64, 63, true}, {1<<63 - 1, 65, 63, true}, {1<<63 - 1, 63, 0, false}, {all, 64, 0, false}, {all, 65, 0, false}, {all, math.MaxInt, 0, false},
	} {
		if got, ok := Low(c.w, c.n); got != c.want || ok != c.ok {
			t.Errorf("Low(%#x, %d): %d %v, want %d %v", c.w, c.n, got, ok, c.want, c.ok)
		}
	}
}

// 1.2
func TestNth(t *testing.T) {
	for _, w := range words {
		places := setPlaces(w)
		for _, k := range numbers() {
			want, ok := 0, false
			if k >= 0 && k < len(places) {
				want, ok = places[k], true
			}
			if got, is := Nth(w, k); got != want || is != ok {
				t.Errorf("Nth(%#x, %d): %d %v, want %d %v", w, k, got, is, want, ok)
			}
		}
	}
}

// 1.2
func TestNthByHand(t *testing.T) {
	for _, c := range []struct {
		w       uint64
		k, want int
		ok      bool
	}{
		{10, 1, 3, true}, {10, 0, 1, true}, {10, 2, 0, false}, {10, -1, 0, false}, {0, 0, 0, false},
		{all, 63, 63, true}, {all, 64, 0, false}, {all, 65, 0, false}, {1 << 63, 0, 63, true}, {all, math.MinInt, 0, false}, {all, math.MaxInt, 0, false},
	} {
		if got, ok := Nth(c.w, c.k); got != c.want || ok != c.ok {
			t.Errorf("Nth(%#x, %d): %d %v, want %d %v", c.w, c.k, got, ok, c.want, c.ok)
		}
	}
}

// 1.2
func TestFirst(t *testing.T) {
	for _, w := range words {
		for _, k := range numbers() {
			lowest := setPlaces(w)
			lowest = lowest[:min(clamp(k), len(lowest))]
			want := made(func(i int) bool { return slices.Contains(lowest, i) })
			if got := First(w, k); got != want {
				t.Errorf("First(%#x, %d): %#x, want %#x", w, k, got, want)
			}
		}
	}
}

// 1.2
func TestFirstByHand(t *testing.T) {
	for _, c := range []struct {
		w    uint64
		k    int
		want uint64
	}{{11, 2, 3}, {11, 3, 11}, {11, 4, 11}, {10, 1, 2}, {10, 0, 0}, {10, -1, 0}, {0, 1, 0}, {all, 63, 1<<63 - 1}, {all, 64, all}, {all, 65, all}, {all, math.MinInt, 0}} {
		if got := First(c.w, c.k); got != c.want {
			t.Errorf("First(%#x, %d): %#x, want %#x", c.w, c.k, got, c.want)
		}
	}
}

// 1.2
func TestPlaces(t *testing.T) {
	for _, w := range words {
		if got, want := Places(w), setPlaces(w); !slices.Equal(got, want) {
			t.Errorf("Places(%#x): %v, want %v", w, got, want)
		}
	}
	if got := Places(1<<63 | 11); !slices.Equal(got, []int{0, 1, 3, 63}) {
		t.Error("Places by hand:", got)
	}
}

// R1, R4: one answer is not touched by what is done with another, spare room too.
func TestPlacesAreNew(t *testing.T) {
	one := Places(11)
	one = one[:cap(one)]
	for i := range one {
		one[i] = -1
	}
	if got := Places(11); !slices.Equal(got, []int{0, 1, 3}) {
		t.Error("Places behind a turned answer:", got)
	}
}

// 1.3
func TestFieldOfWith(t *testing.T) {
	for _, w := range words {
		for at := 0; at <= 64; at++ {
			for n := 0; at+n <= 64; n++ {
				for _, v := range values(n) {
					if v > made(func(i int) bool { return i < n }) {
						continue
					}
					turned, ok := With(w, at, n, v)
					if got := Field(turned, at, n); !ok || got != v {
						t.Fatalf("Field(With(%#x, %d, %d, %#x)): %#x %v", w, at, n, v, got, ok)
					}
				}
			}
		}
	}
}

// 1.3
func TestFirstIsBelowTheRest(t *testing.T) {
	for _, w := range words {
		for _, k := range numbers() {
			first := First(w, k)
			rest := w - first
			if first&rest != 0 || first|rest != w {
				t.Errorf("First(%#x, %d): %#x is not a part of it", w, k, first)
			}
			has, left := setPlaces(first), setPlaces(rest)
			if len(has) > 0 && len(left) > 0 && has[len(has)-1] >= left[0] {
				t.Errorf("First(%#x, %d): it has %v, and leaves out %v", w, k, has, left)
			}
		}
	}
}

// The examples of chapter 1.
func TestExamples(t *testing.T) {
	if at, ok := Low(11, 64); at != 2 || !ok {
		t.Error("Low(11, 64):", at, ok)
	}
	if at, ok := Nth(10, 1); at != 3 || !ok {
		t.Error("Nth(10, 1):", at, ok)
	}
	if w, ok := With(0, 8, 4, 16); w != 0 || ok {
		t.Error("With(0, 8, 4, 16):", w, ok)
	}
}
