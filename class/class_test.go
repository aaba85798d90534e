package class

import (
	"math"
	"testing"

	"dustpan/api"
)

// column is a column of the chapter's table, written out here once more, so that the tests lean on no table of the package.
type column struct{ class, bytes, pages, slots int }

func table() []column {
	return []column{
		{0, 128, 1, 64},
		{1, 192, 1, 42},
		{2, 256, 1, 32},
		{3, 384, 1, 21},
		{4, 512, 1, 16},
		{5, 768, 1, 10},
		{6, 1024, 1, 8},
		{7, 1536, 3, 16},
		{8, 2048, 1, 4},
		{9, 3072, 3, 8},
		{10, 4096, 1, 2},
		{11, 6144, 3, 4},
		{12, 8192, 2, 2},
		{13, 12288, 3, 2},
	}
}

const greatest = 12288 // the bytes of the greatest class that is not Large

// sizes are all that are no Large, and of Large those at and beside the edges of pages, up to the greatest int.
func sizes() []int {
	var list []int
	for size := range greatest + 1 {
		list = append(list, size)
	}
	list = append(list, greatest+1, greatest+2)
	for _, pages := range []int{2, 3, 4, 5, 64, 4095, 4096, 4097, 1 << 20, 1<<50 - 1} {
		for beside := -2; beside <= 2; beside++ {
			list = append(list, pages*api.PageBytes+beside)
		}
	}
	return append(list, math.MaxInt32, math.MaxInt32+1, math.MaxInt-api.PageBytes, math.MaxInt-api.PageBytes+1, math.MaxInt-1, math.MaxInt)
}

func wantRow(t *testing.T, class, bytes, pages, slots int) {
	t.Helper()
	if got := Size(class); got != bytes {
		t.Errorf("Size(%d): %d, want %d", class, got, bytes)
	}
	if got := Pages(class); got != pages {
		t.Errorf("Pages(%d): %d, want %d", class, got, pages)
	}
	if got := Slots(class); got != slots {
		t.Errorf("Slots(%d): %d, want %d", class, got, slots)
	}
}

func wantOf(t *testing.T, size, class, pages int) {
	t.Helper()
	if c, n, ok := Of(size); c != class || n != pages || !ok {
		t.Errorf("Of(%d): %d, %d, %t, want %d, %d, true", size, c, n, ok, class, pages)
	}
}

// 4.1
func TestTable(t *testing.T) {
	if len(table()) != api.Classes {
		t.Fatalf("the table has %d classes, want %d", len(table()), api.Classes)
	}
	for _, c := range table() {
		wantRow(t, c.class, c.bytes, c.pages, c.slots)
	}
}

// 4.1
func TestLarge(t *testing.T) {
	wantRow(t, api.Large, 0, 0, 1)
}

// 4.1, R1
func TestNoClass(t *testing.T) {
	for class := -300; class < 0; class++ {
		wantRow(t, class, 0, 0, 0)
	}
	for class := api.Large + 1; class <= 300; class++ {
		wantRow(t, class, 0, 0, 0)
	}
	// Those whose lowest bits are a class's, too.
	for _, class := range []int{math.MinInt, math.MinInt + 1, math.MinInt + api.Large, math.MinInt32, -1 << 32, 1 << 8, 1 << 16, math.MaxInt32, 1 << 32, 1<<32 + 1, 1<<32 + api.Large, math.MaxInt - 1, math.MaxInt} {
		wantRow(t, class, 0, 0, 0)
	}
}

// 4.1: slots are cut from the span's first byte on, and as many as go.
func TestSlotsAreAsManyAsGo(t *testing.T) {
	for class := range api.Classes {
		span, cut := Pages(class)*api.PageBytes, Slots(class)*Size(class)
		if cut > span || cut+Size(class) <= span {
			t.Errorf("class %d: slots have %d of %d bytes", class, cut, span)
		}
		if Slots(class) > api.MaxSlots {
			t.Errorf("class %d: %d slots", class, Slots(class))
		}
	}
}

// 4.2
func TestOfAtEachClass(t *testing.T) {
	all := table()
	for i, c := range all {
		wantOf(t, c.bytes-1, c.class, c.pages)
		wantOf(t, c.bytes, c.class, c.pages)
		if i+1 < len(all) {
			wantOf(t, c.bytes+1, all[i+1].class, all[i+1].pages)
		}
	}
}

// 4.2: each size that is no Large, by a walk along the table.
func TestOfEachSize(t *testing.T) {
	size := 0
	for _, c := range table() {
		for ; size <= c.bytes; size++ {
			wantOf(t, size, c.class, c.pages)
		}
	}
	if size != greatest+1 {
		t.Errorf("the table ends at %d, want %d", size-1, greatest)
	}
}

// 4.2
func TestOfLeast(t *testing.T) {
	wantOf(t, 0, 0, 1)
	wantOf(t, 1, 0, 1)
}

// 4.2
func TestOfLarge(t *testing.T) {
	wantOf(t, greatest, 13, 3)
	wantOf(t, greatest+1, api.Large, 2)
	for _, pages := range []int{2, 3, 4, 5, 63, 64, 65, 4095, 4096, 4097, 1 << 20, 1 << 40, 1<<50 - 1} {
		wantOf(t, pages*api.PageBytes-1, api.Large, pages)
		wantOf(t, pages*api.PageBytes, api.Large, pages)
		wantOf(t, pages*api.PageBytes+1, api.Large, pages+1)
	}
}

// 4.2, R1: rounding up doesn't go round.
func TestOfGreatest(t *testing.T) {
	wantOf(t, math.MaxInt, api.Large, 1<<50)
	wantOf(t, math.MaxInt-1, api.Large, 1<<50)
	wantOf(t, math.MaxInt-api.PageBytes+1, api.Large, 1<<50-1)
	wantOf(t, math.MaxInt-api.PageBytes+2, api.Large, 1<<50)
}

// 4.2, R3
func TestOfBelowZero(t *testing.T) {
	for _, size := range []int{-1, -2, -127, -128, -129, -api.PageBytes, -greatest - 1, math.MinInt32, math.MinInt + 1, math.MinInt} {
		if class, pages, ok := Of(size); class != 0 || pages != 0 || ok {
			t.Errorf("Of(%d): %d, %d, %t, want 0, 0, false", size, class, pages, ok)
		}
	}
}

// 4.3
func TestFitsAndNotAhead(t *testing.T) {
	for _, size := range sizes() {
		class, pages, ok := Of(size)
		if !ok {
			t.Fatalf("Of(%d): false", size)
		}
		if class == api.Large {
			// By differences, for the greatest pages' bytes are beyond an int.
			if last := size - (pages-1)*api.PageBytes; last < 1 || last > api.PageBytes {
				t.Errorf("size %d has %d bytes in the last of %d pages", size, last, pages)
			}
		} else if size > Size(class) || pages != Pages(class) {
			t.Errorf("size %d: class %d of %d bytes, %d pages", size, class, Size(class), pages)
		}
		if class > 0 && size <= Size(class-1) {
			t.Errorf("size %d: class %d, but it fits into the %d bytes of the class ahead", size, class, Size(class-1))
		}
	}
}

// 4.3: a slot's own bytes are of its class, so no class is idle.
func TestEachClassIsOfItsBytes(t *testing.T) {
	for class := range api.Classes {
		wantOf(t, Size(class), class, Pages(class))
	}
}

// The chapter's examples.
func TestExamples(t *testing.T) {
	wantOf(t, 0, 0, 1)
	wantOf(t, 12289, 14, 2)
}
