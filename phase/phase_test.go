package phase

import (
	"math"
	"testing"

	"dustpan/api"
)

const last = 1 << 31

// someGens are the first, the last, and some in between.
func someGens() []int {
	return []int{1, 2, 3, 4, 5, 7, 8, 9, 63, 64, 4095, 4096, 1<<16 - 1, 1 << 16, 1<<29 - 1, 1 << 29, 1<<30 + 5, last - 2, last - 1, last}
}

// noGens have, some of them, the lowest bits of a cycle that may be, even when 8 times as great.
func noGens() []int {
	return []int{
		0, -1, -2, -7, -8, -last, -last - 1, -1 << 32, -1<<32 + 1, -1 << 60, -1 << 61, -1<<61 + 1, math.MinInt + 1, math.MinInt,
		last + 1, last + 2, last + 8, 1<<32 - 1, 1 << 32, 1<<32 + 1, 1 << 40, 1 << 60, 1<<60 + 1, 1<<61 - 1, 1 << 61, 1<<61 + 1, 1<<62 + 1, math.MaxInt - 1, math.MaxInt,
	}
}

// noPhases have, some of them, the lowest bits of a phase that may be.
func noPhases() []int {
	return []int{
		-1, -2, -6, -7, -8, math.MinInt32, -1 << 32, -1<<32 + 1, -1<<32 + 2, math.MinInt + 2, math.MinInt + 1, math.MinInt,
		7, 8, 9, 10, 11, 14, 15, 16, 64, 1<<31 + 1, 1 << 32, 1<<32 + 1, 1<<32 + 2, 1<<61 + 2, math.MaxInt - 1, math.MaxInt,
	}
}

// allPhases are all that may be handed in: those of spans, PNone, and what is none.
func allPhases() []int { return append(noPhases(), 0, 1, 2, 3, 4, 5, 6) }

// noStates are words whose phase, or whose cycle, may not be.
func noStates() []uint64 {
	list := []uint64{
		1, 2, 3, 4, 5, 6, 7, 8, 15, 16, 23, 24, 31,
		8*last - 8, 8*last - 1, 8 * last, 8*last + 7, 8*last + 8, 8*last + 9, 8*last + 10, 8*last + 14, 8*last + 15, 8*last + 16, 8*last + 17,
		1 << 35, 1<<35 + 1, 1<<35 + 9, 1<<40 + 2, 1<<62 + 1, 1<<63 - 1, 1<<63 - 2,
		1 << 63, 1<<63 + 1, 1<<63 + 2, 1<<63 + 7, 1<<63 + 8, 1<<63 + 9, 1<<63 + 25, 1<<63 + 8*last + 1, 3<<62 + 9, math.MaxUint64 - 7, math.MaxUint64 - 6, math.MaxUint64 - 1, math.MaxUint64,
	}
	for _, gen := range someGens() {
		list = append(list, uint64(gen)*8, uint64(gen)*8+7)
	}
	return list
}

// state is reckoned here as the chapter says it, not by Make.
func state(gen, phase int) uint64 { return 8*uint64(gen) + uint64(phase) }

func wantMake(t *testing.T, gen, phase int, w uint64) {
	t.Helper()
	if got, ok := Make(gen, phase); got != w || !ok {
		t.Errorf("Make(%d, %d): %d, %t, want %d, true", gen, phase, got, ok, w)
	}
}

func wantNoMake(t *testing.T, gen, phase int) {
	t.Helper()
	if got, ok := Make(gen, phase); got != 0 || ok {
		t.Errorf("Make(%d, %d): %d, %t, want 0, false", gen, phase, got, ok)
	}
}

func wantTold(t *testing.T, w uint64, may bool, gen, phase int) {
	t.Helper()
	if m, g, p := May(w), Gen(w), Phase(w); m != may || g != gen || p != phase {
		t.Errorf("of %d: May %t, Gen %d, Phase %d, want %t, %d, %d", w, m, g, p, may, gen, phase)
	}
}

func wantSwept(t *testing.T, w uint64, gen int, want bool) {
	t.Helper()
	if got := Swept(w, gen); got != want {
		t.Errorf("Swept(%d, %d): %t, want %t", w, gen, got, want)
	}
}

func wantWaits(t *testing.T, w uint64, gen int, want bool) {
	t.Helper()
	if got := Waits(w, gen); got != want {
		t.Errorf("Waits(%d, %d): %t, want %t", w, gen, got, want)
	}
}

func wantGoes(t *testing.T, w uint64, gen, phase int, want uint64) {
	t.Helper()
	if got, ok := Goes(w, gen, phase); got != want || !ok {
		t.Errorf("Goes(%d, %d, %d): %d, %t, want %d, true", w, gen, phase, got, ok, want)
	}
}

func wantNoGoes(t *testing.T, w uint64, gen, phase int) {
	t.Helper()
	if got, ok := Goes(w, gen, phase); got != 0 || ok {
		t.Errorf("Goes(%d, %d, %d): %d, %t, want 0, false", w, gen, phase, got, ok)
	}
}

// 7.1: what stands where, written out.
func TestMakeWrittenOut(t *testing.T) {
	wantMake(t, 1, api.PIdle, 9)
	wantMake(t, 1, api.PHeld, 10)
	wantMake(t, 1, api.PCached, 11)
	wantMake(t, 1, api.PSweeping, 12)
	wantMake(t, 1, api.PDone, 13)
	wantMake(t, 1, api.PHanded, 14)
	wantMake(t, 2, api.PIdle, 17)
	wantMake(t, 4, api.PSweeping, 36)
	wantMake(t, api.MaxGen-1, api.PHanded, 0x3_ffff_fffe)
	wantMake(t, api.MaxGen, api.PIdle, 0x4_0000_0001)
	wantMake(t, api.MaxGen, api.PHanded, 0x4_0000_0006)
}

// 7.1: a state tells the cycle and the phase it was made of.
func TestThereAndBack(t *testing.T) {
	for _, gen := range someGens() {
		for phase := api.PIdle; phase <= api.PHanded; phase++ {
			wantMake(t, gen, phase, state(gen, phase))
			wantTold(t, state(gen, phase), true, gen, phase)
		}
	}
}

// 7.1: many cycles, and each bit of one.
func TestManyCycles(t *testing.T) {
	for gen := 1; gen <= 5000; gen++ {
		for phase := 1; phase <= 6; phase++ {
			wantMake(t, gen, phase, state(gen, phase))
			wantTold(t, state(gen, phase), true, gen, phase)
		}
	}
	for bit := range 32 {
		for phase := 1; phase <= 6; phase++ {
			wantMake(t, 1<<bit, phase, state(1<<bit, phase))
			wantTold(t, state(1<<bit, phase), true, 1<<bit, phase)
		}
	}
}

// 7.1, R1, R3
func TestMakeOfNoCycle(t *testing.T) {
	for _, gen := range noGens() {
		for _, phase := range allPhases() {
			wantNoMake(t, gen, phase)
		}
	}
}

// 7.1, R1, R3: PNone is no phase of a state that Make tells, either.
func TestMakeOfNoPhase(t *testing.T) {
	for _, gen := range someGens() {
		wantNoMake(t, gen, api.PNone)
		for _, phase := range noPhases() {
			wantNoMake(t, gen, phase)
		}
	}
}

// 7.1
func TestNoSpan(t *testing.T) { wantTold(t, 0, true, 0, api.PNone) }

// 7.1, R1, R3
func TestNoStates(t *testing.T) {
	for _, w := range noStates() {
		wantTold(t, w, false, 0, 0)
	}
}

// 7.1: a bit above the greatest cycle makes no state of one.
func TestBitsAboveTheLastCycle(t *testing.T) {
	for bit := 35; bit < 64; bit++ {
		for phase := range 8 {
			for _, gen := range someGens() {
				wantTold(t, 1<<bit|state(gen, phase), false, 0, 0)
			}
			wantTold(t, 1<<bit|uint64(phase), false, 0, 0)
		}
	}
}

// 7.1: the words from 0 on, one by one, and those around the last cycle's.
func TestWordsAtTheEdges(t *testing.T) {
	for w := uint64(1); w <= 8; w++ {
		wantTold(t, w, false, 0, 0)
	}
	for w := uint64(9); w <= 14; w++ {
		wantTold(t, w, true, 1, int(w)-8)
	}
	wantTold(t, 15, false, 0, 0)
	wantTold(t, 16, false, 0, 0)
	wantTold(t, 17, true, 2, api.PIdle)
	wantTold(t, 8*last-2, true, last-1, api.PHanded)
	wantTold(t, 8*last-1, false, 0, 0)
	wantTold(t, 8*last, false, 0, 0)
	for w := uint64(8*last + 1); w <= 8*last+6; w++ {
		wantTold(t, w, true, last, int(w-8*last))
	}
	for w := uint64(8*last + 7); w <= 8*last+64; w++ {
		wantTold(t, w, false, 0, 0)
	}
}

// cyclesToAsk are gen, those around it, a far one on each side, and what is no cycle.
func cyclesToAsk(gen int) []int {
	return append(noGens(), gen, gen-1, gen+1, gen-2, gen+2, gen-7, gen+7, gen+last, gen-last, 1, last)
}

// 7.2: in its own cycle alone, and of four phases.
func TestSwept(t *testing.T) {
	swept := map[int]bool{1: true, 2: true, 3: true, 4: false, 5: true, 6: false}
	for _, gen := range someGens() {
		for phase, is := range swept {
			for _, asked := range cyclesToAsk(gen) {
				wantSwept(t, state(gen, phase), asked, is && asked == gen)
			}
		}
	}
}

// 7.2: in the cycle behind its own alone, and of PIdle.
func TestWaits(t *testing.T) {
	for _, gen := range someGens() {
		for phase := api.PIdle; phase <= api.PHanded; phase++ {
			for _, asked := range cyclesToAsk(gen) {
				wantWaits(t, state(gen, phase), asked, phase == api.PIdle && asked == gen+1)
			}
		}
	}
}

// 7.2: of the first cycle, and of the last, whose next one is none.
func TestSweptAndWaitsAtTheEdges(t *testing.T) {
	wantSwept(t, 9, 1, true)
	wantSwept(t, 9, 2, false)
	wantSwept(t, 9, 0, false)
	wantWaits(t, 9, 2, true)
	wantWaits(t, 9, 1, false)
	wantWaits(t, 9, 0, false)
	wantSwept(t, 8*last+1, last, true)
	wantSwept(t, 8*last+1, last+1, false)
	wantWaits(t, 8*last+1, last+1, true)
	wantWaits(t, 8*last+1, last, false)
	wantWaits(t, 8*last-7, last, true)
}

// 7.2: no span is neither, not even in cycle 0, or in the one behind it.
func TestSweptAndWaitsOfNoSpan(t *testing.T) {
	for _, gen := range append(noGens(), someGens()...) {
		wantSwept(t, 0, gen, false)
		wantWaits(t, 0, gen, false)
	}
}

// 7.2, R1: what is no state is neither, not even in the cycle that its upper bits name.
func TestSweptAndWaitsOfNoStates(t *testing.T) {
	for _, w := range noStates() {
		high := int(w / 8)
		for _, gen := range append(cyclesToAsk(high), someGens()...) {
			wantSwept(t, w, gen, false)
			wantWaits(t, w, gen, false)
		}
	}
}

// 7.2: nothing is both swept and waits in one cycle.
func TestNotBoth(t *testing.T) {
	for _, gen := range someGens() {
		for phase := 0; phase < 8; phase++ {
			for _, asked := range cyclesToAsk(gen) {
				if w := state(gen, phase); Swept(w, asked) && Waits(w, asked) {
					t.Errorf("%d is swept in cycle %d, and waits", w, asked)
				}
			}
		}
	}
}

// steps are those of 7.3 within one cycle, written out: whence, and whither.
func steps() map[int][]int {
	return map[int][]int{
		api.PIdle:     {api.PHeld, api.PCached},
		api.PHeld:     {api.PIdle, api.PCached, api.PNone},
		api.PCached:   {api.PIdle, api.PNone},
		api.PSweeping: {api.PDone, api.PHanded},
		api.PDone:     {api.PHeld},
		api.PHanded:   {api.PHeld},
	}
}

func has(list []int, n int) bool {
	for _, m := range list {
		if m == n {
			return true
		}
	}
	return false
}

// wantStep asks of one step what 7.3 says, in a cycle that may be.
func wantStep(t *testing.T, w uint64, gen, phase int, may bool) {
	t.Helper()
	switch {
	case !may:
		wantNoGoes(t, w, gen, phase)
	case phase == api.PNone:
		wantGoes(t, w, gen, phase, 0)
	default:
		wantGoes(t, w, gen, phase, state(gen, phase))
	}
}

// 7.3: from each phase to each, in its own cycle.
func TestGoesInItsOwnCycle(t *testing.T) {
	for _, gen := range someGens() {
		for from, to := range steps() {
			for _, phase := range allPhases() {
				wantStep(t, state(gen, from), gen, phase, has(to, phase))
			}
		}
	}
}

// 7.3: from each phase to each, of a state of the cycle ahead.
func TestGoesOfTheCycleAhead(t *testing.T) {
	for _, gen := range someGens() {
		if gen == last {
			continue
		}
		for from := range steps() {
			for _, phase := range allPhases() {
				may := from == api.PIdle && (phase == api.PHeld || phase == api.PSweeping)
				wantStep(t, state(gen, from), gen+1, phase, may)
			}
		}
	}
}

// 7.3: from each phase to each, of a state of the cycle behind, and of far ones: none.
func TestGoesOfOtherCycles(t *testing.T) {
	for _, gen := range someGens() {
		for _, asked := range append(someGens(), gen-1, gen-2, gen+2, gen+3, gen-8, gen+8) {
			if asked == gen || asked == gen+1 {
				continue
			}
			for from := range steps() {
				for _, phase := range allPhases() {
					wantNoGoes(t, state(gen, from), asked, phase)
				}
			}
		}
	}
}

// 7.3: to PHeld alone, in each cycle that may be.
func TestGoesOfNoSpan(t *testing.T) {
	for _, gen := range someGens() {
		for _, phase := range allPhases() {
			wantStep(t, 0, gen, phase, phase == api.PHeld)
		}
	}
}

// 7.3, R1, R3: nothing may, unless gen is a cycle; not even what would wait in it.
func TestGoesInNoCycle(t *testing.T) {
	for _, gen := range noGens() {
		for _, phase := range allPhases() {
			wantNoGoes(t, 0, gen, phase)
			for _, of := range someGens() {
				for from := range steps() {
					wantNoGoes(t, state(of, from), gen, phase)
				}
			}
		}
	}
}

// 7.3, R1, R3: what is no state becomes nothing, in whatever cycle, not even what no span becomes.
func TestGoesOfNoStates(t *testing.T) {
	for _, w := range noStates() {
		high := int(w / 8)
		for _, gen := range append(someGens(), 0, -1, high-1, high, high+1, math.MinInt, math.MaxInt) {
			for _, phase := range allPhases() {
				wantNoGoes(t, w, gen, phase)
			}
		}
	}
}

// 7.3: each way that there is, written out as numbers.
func TestGoesWrittenOut(t *testing.T) {
	wantGoes(t, 0, 4, api.PHeld, 34)
	wantGoes(t, 25, 4, api.PHeld, 34)
	wantGoes(t, 25, 4, api.PSweeping, 36)
	wantGoes(t, 33, 4, api.PHeld, 34)
	wantGoes(t, 33, 4, api.PCached, 35)
	wantGoes(t, 34, 4, api.PIdle, 33)
	wantGoes(t, 34, 4, api.PCached, 35)
	wantGoes(t, 34, 4, api.PNone, 0)
	wantGoes(t, 35, 4, api.PIdle, 33)
	wantGoes(t, 35, 4, api.PNone, 0)
	wantGoes(t, 36, 4, api.PDone, 37)
	wantGoes(t, 36, 4, api.PHanded, 38)
	wantGoes(t, 37, 4, api.PHeld, 34)
	wantGoes(t, 38, 4, api.PHeld, 34)
}

// 7.3: the first cycle has none ahead of it; the last one has, and is the last in which anything may.
func TestGoesAtTheEdges(t *testing.T) {
	wantGoes(t, 0, 1, api.PHeld, 10)
	wantGoes(t, 9, 1, api.PHeld, 10)
	wantNoGoes(t, 1, 1, api.PHeld)
	wantNoGoes(t, 1, 1, api.PSweeping)
	wantNoGoes(t, 0, 1, api.PSweeping)
	wantGoes(t, 0, last, api.PHeld, 8*last+2)
	wantGoes(t, 8*last-7, last, api.PSweeping, 8*last+4)
	wantGoes(t, 8*last+4, last, api.PHanded, 8*last+6)
	wantGoes(t, 8*last+3, last, api.PNone, 0)
	wantNoGoes(t, 0, last+1, api.PHeld)
	wantNoGoes(t, 8*last+1, last+1, api.PHeld)
	wantNoGoes(t, 8*last+1, last+1, api.PSweeping)
	wantNoGoes(t, 8*last+9, last+1, api.PHeld)
}

// reach is all that may come of w in cycle gen, by any number of steps, w too.
func reach(w uint64, gen int) map[uint64]bool {
	seen := map[uint64]bool{w: true}
	for todo := []uint64{w}; len(todo) > 0; todo = todo[1:] {
		for phase := -1; phase <= 8; phase++ {
			if next, ok := Goes(todo[0], gen, phase); ok && !seen[next] {
				seen[next] = true
				todo = append(todo, next)
			}
		}
	}
	return seen
}

// 7.4: whoever turns what waits from PIdle has it alone: what comes of it does not wait in that cycle any more, however it goes on.
func TestWhatWaitsIsTurnedOnce(t *testing.T) {
	for _, gen := range someGens() {
		if gen == last {
			continue
		}
		w := state(gen, api.PIdle)
		wantWaits(t, w, gen+1, true)
		all := reach(w, gen+1)
		if len(all) != 8 {
			t.Errorf("of %d in cycle %d: %d come of it, want 8", w, gen+1, len(all))
		}
		for next := range all {
			wantWaits(t, next, gen+1, next == w)
			if !May(next) {
				t.Errorf("of %d in cycle %d comes %d, which is no state", w, gen+1, next)
			}
		}
	}
}

// 7.4: a sweep begins where something waits, and nowhere else: none of a cycle comes to PSweeping in it.
func TestOnlyWhatWaitsIsSwept(t *testing.T) {
	for _, gen := range someGens() {
		for _, of := range append(someGens(), gen-1, gen, gen+1) {
			for phase := range 8 {
				w := uint64(of)*8 + uint64(phase)
				if _, ok := Goes(w, gen, api.PSweeping); ok != Waits(w, gen) {
					t.Errorf("Goes(%d, %d, PSweeping): %t, but Waits: %t", w, gen, ok, !ok)
				}
			}
		}
		wantNoGoes(t, 0, gen, api.PSweeping)
	}
}

// 7.4: what is swept of a cycle stays so in it, till no span is left; then nobody else sweeps it.
func TestWhatIsSweptStaysSo(t *testing.T) {
	for _, gen := range someGens() {
		for phase := api.PIdle; phase <= api.PHanded; phase++ {
			w := state(gen, phase)
			if !Swept(w, gen) {
				continue
			}
			for next := range reach(w, gen) {
				wantSwept(t, next, gen, next != 0)
				wantWaits(t, next, gen, false)
			}
		}
	}
}

// 7.4: a state waits in one cycle alone.
func TestWaitsInOneCycle(t *testing.T) {
	for _, gen := range someGens() {
		times := 0
		for asked := gen - 5; asked <= gen+5; asked++ {
			if Waits(state(gen, api.PIdle), asked) {
				times++
			}
		}
		if times != 1 {
			t.Errorf("of cycle %d: waits in %d cycles", gen, times)
		}
	}
}

// R1: what is answered hangs on what is handed in alone.
func TestAskedTwice(t *testing.T) {
	for _, w := range append(noStates(), 0, 9, 25, 33, 34, 35, 36, 37, 38) {
		for _, gen := range []int{1, 2, 4, 5, last} {
			for _, phase := range allPhases() {
				x, ok := Goes(w, gen, phase)
				Make(gen, 3)
				Goes(x, gen, api.PHeld)
				if again, same := Goes(w, gen, phase); again != x || same != ok {
					t.Errorf("Goes(%d, %d, %d): %d, %t, then %d, %t", w, gen, phase, x, ok, again, same)
				}
			}
		}
	}
}

// The chapter's examples.
func TestExamples(t *testing.T) {
	wantMake(t, 3, api.PIdle, 25)
	wantGoes(t, 25, 4, api.PSweeping, 36)
}
