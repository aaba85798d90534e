package store

import (
	"math"
	"slices"
	"testing"

	"dustpan/api"
)

const all = math.MaxUint64

// outside are places that no store, or none of n words, has.
func outside(n int) []int {
	return []int{math.MinInt, math.MinInt + 1, math.MinInt32, -api.MaxWords, -n, -2, -1, n, n + 1, api.MaxWords, api.MaxWords + 1, math.MaxInt32, math.MaxInt - 1, math.MaxInt}
}

// made is a store of the words of list, put there one behind the other.
func made(t *testing.T, list ...uint64) *Store {
	t.Helper()
	s := New(len(list))
	if s == nil {
		t.Fatalf("New(%d): nil", len(list))
	}
	for at, v := range list {
		if e := s.Put(at, v); e != api.OK {
			t.Fatalf("Put(%d, %d): %d", at, v, e)
		}
	}
	return s
}

// stands fails unless s has the words of want, and nothing else.
func stands(t *testing.T, s *Store, want ...uint64) {
	t.Helper()
	if got := s.Words(); !slices.Equal(got, want) {
		t.Errorf("Words: %v, want %v", got, want)
	}
}

// told fails unless the last access was want, and the count is count.
func told(t *testing.T, s *Store, want api.Did, count int) {
	t.Helper()
	if got := s.Last(); got != want {
		t.Errorf("Last: %v, want %v", got, want)
	}
	if got := s.Count(); got != count {
		t.Errorf("Count: %d, want %d", got, count)
	}
}

// answered fails unless v and e are what a call had to answer.
func answered(t *testing.T, call string, v uint64, e api.Errno, wantV uint64, wantE api.Errno) {
	t.Helper()
	if v != wantV || e != wantE {
		t.Errorf("%s: %d, %d, want %d, %d", call, v, e, wantV, wantE)
	}
}

// 2.1: how many words there may be.
func TestNewBounds(t *testing.T) {
	for _, n := range []int{math.MinInt, math.MinInt + 1, math.MinInt32, -api.MaxWords, -1, 0, api.MaxWords + 1, 2 * api.MaxWords, math.MaxInt32, math.MaxInt - 1, math.MaxInt} {
		if New(n) != nil {
			t.Errorf("New(%d): not nil", n)
		}
	}
	for _, n := range []int{1, 2, 3, 63, 64, 65, api.MaxWords - 1, api.MaxWords} {
		s := New(n)
		if s == nil {
			t.Fatalf("New(%d): nil", n)
		}
		if s.Len() != n {
			t.Errorf("New(%d): Len %d", n, s.Len())
		}
		stands(t, s, make([]uint64, n)...)
		told(t, s, api.Did{}, 0)
	}
}

// 2.1: a new store's words are 0, and its first and last word are there.
func TestNewWords(t *testing.T) {
	for _, n := range []int{1, 2, 5, api.MaxWords} {
		s := New(n)
		for _, at := range []int{0, n / 2, n - 1} {
			v, e := s.Load(at)
			answered(t, "Load", v, e, 0, api.OK)
		}
	}
}

// 2.1
func TestLoad(t *testing.T) {
	s := made(t, 7, all, 0, 1<<63)
	for at, want := range []uint64{7, all, 0, 1 << 63} {
		for range 2 {
			v, e := s.Load(at)
			answered(t, "Load", v, e, want, api.OK)
		}
	}
	stands(t, s, 7, all, 0, 1<<63)
}

// 2.1
func TestPut(t *testing.T) {
	s := made(t, 1, 2, 3)
	for _, v := range []uint64{9, 9, 0, all, 1 << 63} {
		if e := s.Put(1, v); e != api.OK {
			t.Errorf("Put(1, %d): %d", v, e)
		}
		stands(t, s, 1, v, 3)
	}
}

// 2.1: a Cas that wins lets next stand there, be it what stood there or not.
func TestCasWins(t *testing.T) {
	for _, c := range [][2]uint64{{0, 0}, {0, 1}, {5, 6}, {6, 5}, {5, 5}, {all, 0}, {0, all}, {1 << 63, 1<<63 - 1}, {all, all}} {
		s := made(t, 1, c[0], 3)
		v, e := s.Cas(1, c[0], c[1])
		answered(t, "Cas", v, e, c[0], api.OK)
		stands(t, s, 1, c[1], 3)
	}
}

// 2.1: a Cas that is lost turns nothing, and answers what stands there, beside ErrLost.
func TestCasLost(t *testing.T) {
	for _, c := range []struct{ found, old, next uint64 }{
		{5, 4, 6}, {5, 6, 5}, {5, 4, 5}, {0, 1, 2}, {0, all, 0}, {all, 0, 7}, {all, all - 1, all}, {1 << 63, 0, 1}, {1, 1<<63 | 1, 2}, {1<<32 | 1, 1, 2},
	} {
		s := made(t, 1, c.found, 3)
		v, e := s.Cas(1, c.old, c.next)
		answered(t, "Cas", v, e, c.found, api.ErrLost)
		stands(t, s, 1, c.found, 3)
	}
}

// 2.1, R7: an Add goes round at 2^64.
func TestAdd(t *testing.T) {
	for _, c := range []struct{ found, v, want uint64 }{
		{0, 0, 0}, {0, 1, 1}, {6, 10, 16}, {all, 0, all}, {all, 1, 0}, {all, 2, 1}, {1, all, 0}, {5, all, 4}, {all, all, all - 1}, {1 << 63, 1 << 63, 0}, {1<<63 - 1, 1, 1 << 63}, {1<<32 - 1, 1, 1 << 32},
	} {
		s := made(t, 1, c.found, 3)
		v, e := s.Add(1, c.v)
		answered(t, "Add", v, e, c.found, api.OK)
		stands(t, s, 1, c.want, 3)
	}
}

// refusals makes each of the four accesses of a word, and fails unless want is what all of them answer, beside zeros.
func refusals(t *testing.T, s *Store, at int, want api.Errno) {
	t.Helper()
	v, e := s.Load(at)
	answered(t, "Load", v, e, 0, want)
	if e := s.Put(at, 4); e != want {
		t.Errorf("Put(%d): %d, want %d", at, e, want)
	}
	for _, old := range []uint64{0, 1, all} {
		v, e = s.Cas(at, old, 4)
		answered(t, "Cas", v, e, 0, want)
	}
	v, e = s.Add(at, 4)
	answered(t, "Add", v, e, 0, want)
}

// 2.1, 2.2, R3, R5: where there is no word nothing is turned, and there was no access.
func TestNoWord(t *testing.T) {
	for _, n := range []int{1, 2, 3, 1000, api.MaxWords} {
		fresh := New(n)
		used := New(n)
		used.Put(n-1, 8)
		used.Put(0, 9)
		want := used.Words()
		last := used.Last()
		for _, at := range outside(n) {
			refusals(t, fresh, at, api.ErrArg)
			refusals(t, used, at, api.ErrArg)
		}
		told(t, fresh, api.Did{}, 0)
		told(t, used, last, 2)
		stands(t, fresh, make([]uint64, n)...)
		stands(t, used, want...)
	}
}

// 2.2: what each access is told as.
func TestLast(t *testing.T) {
	s := New(4)
	told(t, s, api.Did{}, 0)
	s.Load(3)
	told(t, s, api.Did{Kind: api.DLoad, At: 3}, 1)
	s.Put(3, 5)
	told(t, s, api.Did{Kind: api.DPut, At: 3, Old: 0, New: 5}, 2)
	s.Load(3)
	told(t, s, api.Did{Kind: api.DLoad, At: 3, Old: 5, New: 5}, 3)
	s.Put(3, 5)
	told(t, s, api.Did{Kind: api.DPut, At: 3, Old: 5, New: 5}, 4)
	s.Cas(3, 4, 6)
	told(t, s, api.Did{Kind: api.DLost, At: 3, Old: 5, New: 5}, 5)
	s.Cas(3, 5, 6)
	told(t, s, api.Did{Kind: api.DCas, At: 3, Old: 5, New: 6}, 6)
	s.Cas(3, 6, 6)
	told(t, s, api.Did{Kind: api.DCas, At: 3, Old: 6, New: 6}, 7)
	s.Add(3, all)
	told(t, s, api.Did{Kind: api.DAdd, At: 3, Old: 6, New: 5}, 8)
	s.Add(0, 0)
	told(t, s, api.Did{Kind: api.DAdd, At: 0}, 9)
}

// 2.2, R5: an access that is refused stands neither in Last nor in Count, and the next one goes on behind it.
func TestLastBehindRefused(t *testing.T) {
	s := New(2)
	s.Put(1, 5)
	refusals(t, s, 2, api.ErrArg)
	refusals(t, s, -1, api.ErrArg)
	told(t, s, api.Did{Kind: api.DPut, At: 1, Old: 0, New: 5}, 1)
	s.Cas(1, 0, 9)
	refusals(t, s, math.MaxInt, api.ErrArg)
	told(t, s, api.Did{Kind: api.DLost, At: 1, Old: 5, New: 5}, 2)
	s.Load(1)
	told(t, s, api.Did{Kind: api.DLoad, At: 1, Old: 5, New: 5}, 3)
}

// 2.2: asking what was done, or how many words there are, or all of them, is no access.
func TestAskingIsNoAccess(t *testing.T) {
	s := made(t, 1, 2)
	last := s.Last()
	for range 3 {
		s.Last()
		s.Count()
		s.Len()
		s.Words()
	}
	told(t, s, last, 2)
	stands(t, s, 1, 2)
}

// 2.2, R4: what Words answers shares no memory with the store, nor with another answer, spare room too.
func TestWordsIsNew(t *testing.T) {
	s := made(t, 1, 2, 3)
	first, second := s.Words(), s.Words()
	for at := range first[:cap(first)] {
		first[:cap(first)][at] = 99
	}
	if !slices.Equal(second, []uint64{1, 2, 3}) {
		t.Errorf("a second answer was turned: %v", second)
	}
	stands(t, s, 1, 2, 3)
	if v, e := s.Load(0); v != 1 || e != api.OK {
		t.Errorf("Load(0): %d, %d", v, e)
	}
	s.Put(0, 8)
	if !slices.Equal(second, []uint64{1, 2, 3}) {
		t.Errorf("an answer was turned by a Put: %v", second)
	}
	again := append(second, 77)
	stands(t, s, 8, 2, 3)
	if again[3] != 77 || s.Len() != 3 {
		t.Errorf("room beyond an answer: %v, Len %d", again, s.Len())
	}
}

// R1: two stores have nothing in common.
func TestTwoStores(t *testing.T) {
	a, b := New(2), New(2)
	a.Put(0, 5)
	a.Add(1, 6)
	stands(t, b, 0, 0)
	told(t, b, api.Did{}, 0)
	b.Put(0, 7)
	stands(t, a, 5, 6)
	told(t, a, api.Did{Kind: api.DAdd, At: 1, Old: 0, New: 6}, 2)
}

// A copy by value has the same words, with a last access and a count of its own: the arena leans on it, where something is no access.
func TestCopyByValue(t *testing.T) {
	s := made(t, 1, 2)
	last := s.Last()
	aside := *s
	aside.Put(0, 7)
	aside.Load(1)
	stands(t, s, 7, 2)
	told(t, s, last, 2)
	told(t, &aside, api.Did{Kind: api.DLoad, At: 1, Old: 2, New: 2}, 4)
	s.Put(1, 9)
	stands(t, &aside, 7, 9)
}

// R6: ErrNone is told of a nil store whatever word is asked for.
func TestNil(t *testing.T) {
	var s *Store
	for _, at := range append(outside(1), 0) {
		refusals(t, s, at, api.ErrNone)
	}
	told(t, s, api.Did{}, 0)
	if s.Len() != 0 || len(s.Words()) != 0 {
		t.Errorf("Len %d, Words %v", s.Len(), s.Words())
	}
}

// R1: a store that New did not make has no word.
func TestZeroStore(t *testing.T) {
	s := &Store{}
	refusals(t, s, 0, api.ErrArg)
	told(t, s, api.Did{}, 0)
	if s.Len() != 0 || len(s.Words()) != 0 {
		t.Errorf("Len %d, Words %v", s.Len(), s.Words())
	}
}

// draws is numbers that look like none in particular, the same each time.
type draws uint64

func (d *draws) next() uint64 {
	*d ^= *d << 13
	*d ^= *d >> 7
	*d ^= *d << 17
	return uint64(*d)
}

// value is most often one of few, so that a Cas wins as often as it is lost.
func (d *draws) value() uint64 {
	list := []uint64{0, 1, 2, all - 1, all, 1 << 63}
	if n := d.next() % 8; n < uint64(len(list)) {
		return list[n]
	}
	return d.next()
}

// traced makes an access that d draws, and answers what the chapter says that it did, where what the last access of each word left stands in left.
func traced(t *testing.T, s *Store, d *draws, left map[int]uint64, n int) api.Did {
	t.Helper()
	at := int(d.next() % uint64(n))
	stood, v, old := left[at], d.value(), d.value()
	if d.next()%2 == 0 {
		old = stood
	}
	switch d.next() % 4 {
	case 0:
		got, e := s.Load(at)
		answered(t, "Load", got, e, stood, api.OK)
		return api.Did{Kind: api.DLoad, At: at, Old: stood, New: stood}
	case 1:
		if e := s.Put(at, v); e != api.OK {
			t.Errorf("Put: %d", e)
		}
		return api.Did{Kind: api.DPut, At: at, Old: stood, New: v}
	case 2:
		got, e := s.Cas(at, old, v)
		if old != stood {
			answered(t, "Cas", got, e, stood, api.ErrLost)
			return api.Did{Kind: api.DLost, At: at, Old: stood, New: stood}
		}
		answered(t, "Cas", got, e, stood, api.OK)
		return api.Did{Kind: api.DCas, At: at, Old: stood, New: v}
	default:
		got, e := s.Add(at, v)
		answered(t, "Add", got, e, stood, api.OK)
		return api.Did{Kind: api.DAdd, At: at, Old: stood, New: stood + v}
	}
}

// 2.3, 2.2: of many accesses, with refused ones among them, a word is what the last one of it left.
func TestLastAccessStands(t *testing.T) {
	for _, n := range []int{1, 2, 7, 64} {
		s, d, left := New(n), draws(n)*0x9e3779b97f4a7c15, map[int]uint64{}
		for count := 1; count <= 5000; count++ {
			did := traced(t, s, &d, left, n)
			left[did.At] = did.New
			told(t, s, did, count)
			if d.next()%4 == 0 {
				refusals(t, s, outside(n)[d.next()%14], api.ErrArg)
				told(t, s, did, count)
			}
			for at, v := range s.Words() {
				if v != left[at] {
					t.Fatalf("word %d: %d, its last access left %d", at, v, left[at])
				}
			}
			if t.Failed() {
				t.FailNow()
			}
		}
	}
}

// 2.1, 2.2: the chapter's examples.
func TestExamples(t *testing.T) {
	s := New(2)
	if e := s.Put(1, 5); e != api.OK {
		t.Errorf("Put(1, 5): %d", e)
	}
	v, e := s.Cas(1, 4, 6)
	answered(t, "Cas(1, 4, 6)", v, e, 5, api.ErrLost)
	stands(t, s, 0, 5)
	v, e = s.Cas(1, 5, 6)
	answered(t, "Cas(1, 5, 6)", v, e, 5, api.OK)
	stands(t, s, 0, 6)
	told(t, s, api.Did{Kind: api.DCas, At: 1, Old: 5, New: 6}, 3)
}
