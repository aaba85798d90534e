package slot

import (
	"math"
	"testing"

	"dustpan/api"
)

// shape is what a span of a class is like, written out of chapter 4 once more, so that the tests lean on no table of the program.
type shape struct{ class, bytes, pages, slots int }

// shapes are those of all classes but Large.
func shapes() []shape {
	return []shape{
		{0, 128, 1, 64},
		{1, 192, 1, 42},
		{2, 256, 1, 32},
		{3, 384, 1, 21},
		{4, 512, 1, 16},
		{5, 768, 1, 10},
		{6, 1024, 1, 8},
		{7, 1536, 3, 16},
		{8, 2048, 1, 4},
		{9, 3072, 3, 8},
		{10, 4096, 1, 2},
		{11, 6144, 3, 4},
		{12, 8192, 2, 2},
		{13, 12288, 3, 2},
	}
}

// noPages have, some of them, the lowest bits of a page, or bytes that go round to an address.
func noPages() []int {
	return []int{-1, -2, -64, -4096, math.MinInt32, -1 << 51, -1 << 50, math.MinInt + 1, math.MinInt, 4096, 4097, 8192, 1 << 16, math.MaxInt32, 1 << 32, 1 << 50, 1 << 51, 1<<51 + 1, math.MaxInt - 1, math.MaxInt}
}

// noClasses have, some of them, the lowest bits of a class.
func noClasses() []int {
	return []int{-1, -2, -14, -256, math.MinInt32, math.MinInt + 4, math.MinInt, 15, 16, 64, 1 << 8, 1<<8 + 4, math.MaxInt32, 1 << 32, 1<<32 + 4, 1<<32 + 14, math.MaxInt - 1, math.MaxInt}
}

// somePages are the first, the last, and some in between.
func somePages() []int { return []int{0, 1, 2, 63, 64, 2048, 4093, 4094, 4095} }

func wantBegin(t *testing.T, page, class, i, at int) {
	t.Helper()
	if got, ok := Begin(page, class, i); got != at || !ok {
		t.Errorf("Begin(%d, %d, %d): %d, %t, want %d, true", page, class, i, got, ok, at)
	}
}

func wantNoBegin(t *testing.T, page, class, i int) {
	t.Helper()
	if got, ok := Begin(page, class, i); got != 0 || ok {
		t.Errorf("Begin(%d, %d, %d): %d, %t, want 0, false", page, class, i, got, ok)
	}
}

func wantOf(t *testing.T, page, class, at, i int) {
	t.Helper()
	if got, ok := Of(page, class, at); got != i || !ok {
		t.Errorf("Of(%d, %d, %d): %d, %t, want %d, true", page, class, at, got, ok, i)
	}
}

func wantNone(t *testing.T, page, class, at int) {
	t.Helper()
	if got, ok := Of(page, class, at); got != 0 || ok {
		t.Errorf("Of(%d, %d, %d): %d, %t, want 0, false", page, class, at, got, ok)
	}
}

func wantBytes(t *testing.T, class, pages, n int) {
	t.Helper()
	if got := Bytes(class, pages); got != n {
		t.Errorf("Bytes(%d, %d): %d, want %d", class, pages, got, n)
	}
}

// wantApart asks both ways round.
func wantApart(t *testing.T, at, n, to, m int, want bool) {
	t.Helper()
	if got := Apart(at, n, to, m); got != want {
		t.Errorf("Apart(%d, %d, %d, %d): %t, want %t", at, n, to, m, got, want)
	}
	if got := Apart(to, m, at, n); got != want {
		t.Errorf("Apart(%d, %d, %d, %d): %t, want %t", to, m, at, n, got, want)
	}
}

// 5.1: each slot of each class, at each page, there and back; a span whose end is beyond the last page, too.
func TestEachSlot(t *testing.T) {
	for page := range 4096 {
		for _, s := range shapes() {
			for i := range s.slots {
				at := page*8192 + i*s.bytes
				wantBegin(t, page, s.class, i, at)
				wantOf(t, page, s.class, at, i)
			}
		}
		wantBegin(t, page, api.Large, 0, page*8192)
		wantOf(t, page, api.Large, page*8192, 0)
	}
}

// 5.1, R1, R3
func TestBeginOfNoSlot(t *testing.T) {
	all := append(shapes(), shape{class: api.Large, slots: 1})
	for _, page := range somePages() {
		for _, s := range all {
			for _, i := range []int{-1, -2, -64, math.MinInt32, math.MinInt + 1, math.MinInt, s.slots, s.slots + 1, s.slots + 64, 1 << 32, 1 << 57, math.MaxInt - 1, math.MaxInt} {
				wantNoBegin(t, page, s.class, i)
			}
		}
	}
}

// 5.1, R1, R3
func TestNoPage(t *testing.T) {
	for _, page := range noPages() {
		for class := range api.Large + 1 {
			for _, i := range []int{-1, 0, 1, 63} {
				wantNoBegin(t, page, class, i)
			}
			// What the page's bytes would be, going round, and page 0's.
			for _, at := range []int{page * 8192, page*8192 + 128, 0, 8192, math.MinInt, math.MaxInt} {
				wantNone(t, page, class, at)
			}
		}
	}
}

// 5.1, R1, R3
func TestNoClass(t *testing.T) {
	for _, class := range noClasses() {
		for _, page := range append(somePages(), noPages()...) {
			for _, i := range []int{-1, 0, 1, math.MinInt, math.MaxInt} {
				wantNoBegin(t, page, class, i)
			}
			for _, at := range []int{page * 8192, page*8192 + 1, page*8192 + 128, 0, math.MinInt, math.MaxInt} {
				wantNone(t, page, class, at)
			}
		}
	}
}

// 5.1: each byte from a page ahead of a span to a page behind it is held against the beginnings, one by one.
func TestOfEachByte(t *testing.T) {
	for _, page := range []int{0, 1, 4095} {
		for _, s := range shapes() {
			begins := map[int]int{}
			for i := range s.slots {
				begins[page*8192+i*s.bytes] = i
			}
			for at := (page - 1) * 8192; at <= (page+s.pages+1)*8192; at++ {
				if i, there := begins[at]; there {
					wantOf(t, page, s.class, at, i)
				} else {
					wantNone(t, page, s.class, at)
				}
			}
		}
	}
}

// 5.1: the one slot of Large begins where the span does.
func TestOfLarge(t *testing.T) {
	for _, page := range somePages() {
		first := page * 8192
		wantOf(t, page, api.Large, first, 0)
		for _, off := range []int{-8192, -2, -1, 1, 2, 128, 8191, 8192, 16384, 4096 * 8192} {
			wantNone(t, page, api.Large, first+off)
		}
	}
}

// 5.1: what is left over behind the last slot, and what is behind that, is no slot's.
func TestOfBehindTheLast(t *testing.T) {
	for _, page := range somePages() {
		for _, s := range shapes() {
			for more := range 70 {
				wantNone(t, page, s.class, page*8192+(s.slots+more)*s.bytes)
			}
		}
	}
}

// 5.1, R1: addresses of which a difference, or a sum, would go round.
func TestOfFarAddresses(t *testing.T) {
	for _, page := range somePages() {
		for class := range api.Large + 1 {
			for _, at := range []int{math.MinInt, math.MinInt + 1, math.MinInt + 128, math.MinInt + page*8192, math.MinInt + page*8192 - 1, math.MinInt32, -1 << 32, -12288, -8192, -128, -1} {
				wantNone(t, page, class, at)
			}
			for _, at := range []int{math.MaxInt, math.MaxInt - 1, math.MaxInt - 127, math.MaxInt - page*8192, math.MaxInt - 8191, 1 << 62, 1 << 40, page*8192 + 1<<32, page*8192 + 3<<40} {
				wantNone(t, page, class, at)
			}
		}
	}
}

// 5.2: pages say nothing of a class that is not Large.
func TestBytesOfEachClass(t *testing.T) {
	for _, s := range shapes() {
		for _, pages := range []int{s.pages, 0, 1, 2, 3, 4, 4096, 4097, -1, math.MinInt, math.MaxInt} {
			wantBytes(t, s.class, pages, s.bytes)
		}
	}
}

// 5.2
func TestBytesOfLarge(t *testing.T) {
	for pages := 1; pages <= 4096; pages++ {
		wantBytes(t, api.Large, pages, pages*8192)
	}
	for _, pages := range []int{0, -1, -2, -4096, math.MinInt32, math.MinInt + 1, math.MinInt, 4097, 4098, 8192, math.MaxInt32, 1 << 50, 1 << 51, 1<<51 + 1, math.MaxInt - 1, math.MaxInt} {
		wantBytes(t, api.Large, pages, 0)
	}
}

// 5.2, R1
func TestBytesOfNoClass(t *testing.T) {
	for _, class := range noClasses() {
		for _, pages := range []int{-1, 0, 1, 2, 4096, 4097, math.MinInt, math.MaxInt} {
			wantBytes(t, class, pages, 0)
		}
	}
}

// 5.2
func TestApart(t *testing.T) {
	for _, c := range []struct {
		at, n, to, m int
		want         bool
		why          string
	}{
		{0, 4, 4, 4, true, "they touch"},
		{0, 4, 5, 4, true, "one lies between"},
		{0, 5, 4, 4, false, "one in common"},
		{3, 1, 3, 1, false, "the same one"},
		{3, 7, 3, 7, false, "the same ones"},
		{0, 9, 3, 2, false, "within, in the midst"},
		{0, 9, 0, 2, false, "within, from the first on"},
		{0, 9, 7, 2, false, "within, up to the last"},
		{0, 9, 9, 2, true, "behind the last"},
		{9216, 512, 9728, 512, true, "slots, one behind the other"},
		{9216, 513, 9728, 512, false, "a slot that is too long"},
	} {
		wantApart(t, c.at, c.n, c.to, c.m, c.want)
		if t.Failed() {
			t.Fatal(c.why)
		}
	}
}

// 5.2: all that are small, byte by byte; no bytes are among them.
func TestApartByteByByte(t *testing.T) {
	common := func(at, n, to, m int) bool {
		for i := range n {
			for j := range m {
				if at+i == to+j {
					return true
				}
			}
		}
		return false
	}
	for at := range 8 {
		for n := range 8 {
			for to := range 8 {
				for m := range 8 {
					wantApart(t, at, n, to, m, !common(at, n, to, m))
				}
			}
		}
	}
}

// 5.2: no bytes are apart from any, ahead of them, in the midst, behind them.
func TestApartOfNoBytes(t *testing.T) {
	const far = 1 << 40
	for _, at := range []int{0, 1, 4, 5, 8, 9, 10, far - 1, far} {
		wantApart(t, at, 0, 5, 4, true)
		wantApart(t, at, 0, at, 0, true)
		wantApart(t, at, 0, at, 1, true)
		wantApart(t, at, 0, 0, far, true)
	}
}

// 5.2: 2^40 itself may be.
func TestApartAtTheBound(t *testing.T) {
	const far = 1 << 40
	wantApart(t, far, far, 0, far, true)
	wantApart(t, far, far, 0, far-1, true)
	wantApart(t, far-1, far, 0, far, false)
	wantApart(t, far-1, 1, 0, far, false)
	wantApart(t, far, far, far, far, false)
	wantApart(t, far, 1, far, 1, false)
	wantApart(t, far, 1, far-1, 1, true)
	wantApart(t, far, 1, far-1, 2, false)
	wantApart(t, 0, far, 1, far, false)
}

// 5.2, R1: one that may not be is enough, even where the bytes would be apart, or none.
func TestApartBeyondTheBound(t *testing.T) {
	for _, x := range []int{-1, -2, -5, -1 << 40, math.MinInt32, math.MinInt + 1, math.MinInt, 1<<40 + 1, 1<<40 + 2, 1 << 41, 1 << 62, math.MaxInt - 1, math.MaxInt} {
		for _, y := range []int{0, 1, 5, 1 << 40} {
			for _, n := range []int{0, 1, 1 << 40} {
				wantApart(t, x, n, y, 1, false)
				wantApart(t, x, n, y, 0, false)
				wantApart(t, y, x, 0, n, false)
				wantApart(t, y, x, 100, n, false)
			}
		}
		wantApart(t, x, 0, x, 0, false)
		wantApart(t, x, x, x, x, false)
		wantApart(t, 0, x, 0, x, false)
	}
}

// 5.3: they lie in the span's pages, from its first byte on, one behind the other, and no more would go in.
func TestSlotsLieInTheirSpan(t *testing.T) {
	for _, page := range somePages() {
		for _, s := range shapes() {
			next, end, n := page*8192, (page+s.pages)*8192, Bytes(s.class, s.pages)
			for i := range s.slots {
				at, ok := Begin(page, s.class, i)
				if !ok || at != next || at+n > end {
					t.Errorf("page %d, class %d, slot %d: %d bytes from %d on, %t, want from %d on, up to %d", page, s.class, i, n, at, ok, next, end)
				}
				next = at + n
			}
			if next+n <= end {
				t.Errorf("page %d, class %d: the last slot ends at %d of %d", page, s.class, next, end)
			}
		}
	}
}

// 5.3: a slot of Large is its span's pages, all of them.
func TestSlotOfLargeIsItsSpan(t *testing.T) {
	for _, page := range somePages() {
		for _, pages := range []int{1, 2, 3, 64, 4095, 4096} {
			at, ok := Begin(page, api.Large, 0)
			if end := at + Bytes(api.Large, pages); !ok || at != page*8192 || end != (page+pages)*8192 {
				t.Errorf("page %d, %d pages: from %d to %d, %t", page, pages, at, end, ok)
			}
		}
	}
}

// 5.3: each two of a span.
func TestSlotsAreApart(t *testing.T) {
	for _, page := range somePages() {
		for _, s := range shapes() {
			n := Bytes(s.class, s.pages)
			for i := range s.slots {
				for k := range s.slots {
					at, _ := Begin(page, s.class, i)
					to, _ := Begin(page, s.class, k)
					wantApart(t, at, n, to, n, i != k)
				}
			}
		}
	}
}

// 5.3: slots of spans that lie one behind the other are apart, too.
func TestSlotsOfTwoSpansAreApart(t *testing.T) {
	for _, s := range shapes() {
		last, _ := Begin(7, s.class, s.slots-1)
		for _, r := range shapes() {
			first, _ := Begin(7+s.pages, r.class, 0)
			wantApart(t, last, Bytes(s.class, s.pages), first, Bytes(r.class, r.pages), true)
		}
	}
}

// The chapter's examples.
func TestExamples(t *testing.T) {
	wantBegin(t, 1, 4, 2, 9216)
	wantOf(t, 1, 4, 9216, 2)
	wantNone(t, 1, 4, 9217)
}
