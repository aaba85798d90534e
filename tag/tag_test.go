package tag

import (
	"math"
	"testing"
)

// someTags are the least, the greatest, and those around what 16 and 31 bits hold.
func someTags() []uint32 {
	return []uint32{0, 1, 2, 3, 7, 4095, 4096, 4097, 1<<16 - 1, 1 << 16, 1<<31 - 1, 1 << 31, 1<<31 + 1, 0xdeadbeef, 1<<32 - 2, 1<<32 - 1}
}

// somePages are none, the first, the last, and some in between.
func somePages() []int { return []int{-1, 0, 1, 2, 63, 64, 2047, 2048, 4094, 4095} }

// noPages have, some of them, the lowest 32 bits of a page, or of none.
func noPages() []int {
	return []int{
		-2, -3, -4096, -4097, math.MinInt32, math.MinInt32 - 1, -1 << 32, -1<<32 - 1, -1<<32 + 7, math.MinInt + 1, math.MinInt + 4095, math.MinInt,
		4096, 4097, 8191, 8192, 1 << 16, math.MaxInt32, 1<<32 - 2, 1<<32 - 1, 1 << 32, 1<<32 + 7, 1<<32 + 4095, 1 << 40, math.MaxInt - 1, math.MaxInt,
	}
}

// noHeads are lower halves that name no page that may be.
func noHeads() []uint64 {
	return []uint64{4097, 4098, 8191, 8192, 8193, 1<<16 + 1, 99999, 1<<31 - 1, 1 << 31, 1<<31 + 1, 1<<32 - 4096, 1<<32 - 2, 1<<32 - 1}
}

func wantMake(t *testing.T, tag uint32, page int, w uint64) {
	t.Helper()
	if got, ok := Make(tag, page); got != w || !ok {
		t.Errorf("Make(%d, %d): %d, %t, want %d, true", tag, page, got, ok, w)
	}
}

func wantPage(t *testing.T, w uint64, page int) {
	t.Helper()
	if got := Page(w); got != page {
		t.Errorf("Page(%d): %d, want %d", w, got, page)
	}
}

func wantTag(t *testing.T, w uint64, tag uint32) {
	t.Helper()
	if got := Tag(w); got != tag {
		t.Errorf("Tag(%d): %d, want %d", w, got, tag)
	}
}

func wantNext(t *testing.T, w uint64, page int, next uint64) {
	t.Helper()
	if got, ok := Next(w, page); got != next || !ok {
		t.Errorf("Next(%d, %d): %d, %t, want %d, true", w, page, got, ok, next)
	}
}

func wantNoMake(t *testing.T, tag uint32, page int) {
	t.Helper()
	if got, ok := Make(tag, page); got != 0 || ok {
		t.Errorf("Make(%d, %d): %d, %t, want 0, false", tag, page, got, ok)
	}
}

func wantNoNext(t *testing.T, w uint64, page int) {
	t.Helper()
	if got, ok := Next(w, page); got != 0 || ok {
		t.Errorf("Next(%d, %d): %d, %t, want 0, false", w, page, got, ok)
	}
}

// 6.1: what stands where, written out.
func TestMakeWrittenOut(t *testing.T) {
	wantMake(t, 0, -1, 0)
	wantMake(t, 0, 0, 1)
	wantMake(t, 0, 1, 2)
	wantMake(t, 0, 4095, 4096)
	wantMake(t, 1, -1, 0x1_0000_0000)
	wantMake(t, 7, 3, 0x7_0000_0004)
	wantMake(t, 1<<31, -1, 0x8000_0000_0000_0000)
	wantMake(t, 1<<31, 4095, 0x8000_0000_0000_1000)
	wantMake(t, 1<<32-1, -1, 0xffff_ffff_0000_0000)
	wantMake(t, 1<<32-1, 0, 0xffff_ffff_0000_0001)
	wantMake(t, 1<<32-1, 4095, 0xffff_ffff_0000_1000)
}

// 6.1: each page that may be, and none, there and back, beneath each tag.
func TestEachPage(t *testing.T) {
	for _, tag := range someTags() {
		for page := -1; page < 4096; page++ {
			w := uint64(tag)*(1<<32) + uint64(page+1)
			wantMake(t, tag, page, w)
			wantPage(t, w, page)
			wantTag(t, w, tag)
		}
	}
}

// 6.1: each bit of a tag is a bit of the head's upper half.
func TestEachBitOfATag(t *testing.T) {
	for _, page := range somePages() {
		for bit := range 32 {
			w := uint64(1)<<(32+bit) + uint64(page+1)
			wantMake(t, 1<<bit, page, w)
			wantTag(t, w, 1<<bit)
			wantPage(t, w, page)
		}
	}
}

// 6.1, R1, R3
func TestMakeOfNoPage(t *testing.T) {
	for _, tag := range someTags() {
		for _, page := range noPages() {
			wantNoMake(t, tag, page)
		}
	}
}

// 6.1: a word with no page in it has none, whatever its tag.
func TestPageOfNone(t *testing.T) {
	for _, tag := range someTags() {
		wantPage(t, uint64(tag)<<32, -1)
	}
}

// 6.1: a page above the last is told as none; the tag above it stays one.
func TestPageThatMayNotBe(t *testing.T) {
	for _, tag := range someTags() {
		for _, low := range noHeads() {
			wantPage(t, uint64(tag)<<32|low, -1)
			wantTag(t, uint64(tag)<<32|low, tag)
		}
	}
}

// 6.1: the lower halves around the edges, one by one.
func TestPageAtTheEdges(t *testing.T) {
	for _, tag := range someTags() {
		above := uint64(tag) << 32
		wantPage(t, above, -1)
		wantPage(t, above|1, 0)
		wantPage(t, above|2, 1)
		wantPage(t, above|4095, 4094)
		wantPage(t, above|4096, 4095)
		wantPage(t, above|4097, -1)
		wantPage(t, above|(1<<32-1), -1)
	}
}

// 6.2: one tag more, and the page that is handed in, whatever page w has.
func TestNext(t *testing.T) {
	for _, tag := range someTags() {
		if tag == 1<<32-1 {
			continue
		}
		for _, was := range somePages() {
			for _, page := range somePages() {
				wantNext(t, uint64(tag)<<32+uint64(was+1), page, (uint64(tag)+1)<<32+uint64(page+1))
			}
		}
	}
}

// 6.2
func TestNextOfEachPage(t *testing.T) {
	for page := -1; page < 4096; page++ {
		wantNext(t, 5<<32+3, page, 6<<32+uint64(page+1))
	}
}

// 6.2: the tag goes round, and nothing of it spills into the page.
func TestNextOfTheLastTag(t *testing.T) {
	const last = uint64(1<<32-1) << 32
	for _, page := range somePages() {
		for _, was := range somePages() {
			wantNext(t, last+uint64(was+1), page, uint64(page+1))
		}
		wantNext(t, math.MaxUint64, page, uint64(page+1))
	}
}

// 6.2: of w the tag alone counts, even where it names a page that may not be.
func TestNextOfNoHead(t *testing.T) {
	for _, low := range noHeads() {
		for _, page := range somePages() {
			wantNext(t, low, page, 1<<32+uint64(page+1))
			wantNext(t, 3<<32|low, page, 4<<32+uint64(page+1))
			wantNext(t, 1<<63|low, page, (1<<31+1)<<32+uint64(page+1))
		}
	}
}

// 6.2, R1, R3
func TestNextWithNoPage(t *testing.T) {
	for _, tag := range someTags() {
		for _, low := range append(noHeads(), 0, 1, 4096) {
			for _, page := range noPages() {
				wantNoNext(t, uint64(tag)<<32|low, page)
			}
		}
	}
}

// follow goes n heads on from the one of tag, its page turned by turn, and says so if one of them was there before.
func follow(t *testing.T, tag uint32, n int, turn func(i int) int) {
	t.Helper()
	w, ok := Make(tag, turn(0))
	if !ok {
		t.Fatalf("Make(%d, %d): false", tag, turn(0))
	}
	seen := map[uint64]bool{w: true}
	for i := 1; i <= n; i++ {
		next, ok := Next(w, turn(i))
		if !ok || seen[next] {
			t.Fatalf("Next(%d, %d), %d behind tag %d: %d, %t, there before: %t", w, turn(i), i, tag, next, ok, seen[next])
		}
		seen[next] = true
		w = next
	}
}

// 6.3: many that follow one another, past the last tag too; with one page, with none, with pages that come again.
func TestHeadsThatFollowAreUnlike(t *testing.T) {
	const many = 1 << 14
	for _, tag := range []uint32{0, 1<<16 - many/2, 1<<31 - many/2, 1<<32 - 1 - many/2, 1<<32 - 1} {
		follow(t, tag, many, func(int) int { return 3 })
		follow(t, tag, many, func(int) int { return -1 })
		follow(t, tag, many, func(i int) int { return i%2 - 1 })
		follow(t, tag, many, func(i int) int { return i%4097 - 1 })
		follow(t, tag, many, func(i int) int { return 4095 - i%4097 })
	}
}

// 6.3: each tag is followed by the one above it, the last by 0: so all 2^32 are gone through ahead of one that comes again.
// They are too many to be asked one by one; those here lie all over.
func TestTagsFollowAllRound(t *testing.T) {
	const stride = 4099
	for i := uint64(0); i < 1<<32; i += stride {
		tag, page := uint32(i), int(i%4097)-1
		w, _ := Make(tag, page)
		next, ok := Next(w, page)
		if !ok || Tag(next) != uint32(i+1) || Page(next) != page {
			t.Fatalf("Next(%d, %d): %d, %t: tag %d, page %d", w, page, next, ok, Tag(next), Page(next))
		}
	}
}

// 6.3: a head whose tag was turned, and whose page is the one ahead, is not the one ahead; that is what a tag is for.
func TestTakenAndBackIsUnlike(t *testing.T) {
	for _, tag := range someTags() {
		for _, page := range somePages() {
			w, _ := Make(tag, page)
			taken, _ := Next(w, -1)
			back, ok := Next(taken, page)
			if !ok || back == w || back == taken || Page(back) != page || Tag(back) != tag+2 {
				t.Errorf("tag %d, page %d: %d, %d, %d, %t", tag, page, w, taken, back, ok)
			}
		}
	}
}

// R1: what is answered hangs on what is handed in alone.
func TestAskedTwice(t *testing.T) {
	for _, tag := range someTags() {
		for _, page := range append(somePages(), noPages()...) {
			w, ok := Make(tag, page)
			x, is := Next(w, page)
			Make(tag+1, 5)
			Next(x, 7)
			if again, same := Make(tag, page); again != w || same != ok {
				t.Errorf("Make(%d, %d): %d, %t, then %d, %t", tag, page, w, ok, again, same)
			}
			if again, same := Next(w, page); again != x || same != is {
				t.Errorf("Next(%d, %d): %d, %t, then %d, %t", w, page, x, is, again, same)
			}
		}
	}
}

// The chapter's examples.
func TestExamples(t *testing.T) {
	wantMake(t, 1, 0, 4294967297)
	wantPage(t, 0, -1)
}
