package seek

import (
	"slices"
	"testing"

	"abacus/api"
)

// told is a call of Monad that is not refused, and its answer.
type told struct {
	op      int
	y, want api.Array
}

func checkTold(t *testing.T, cases []told) {
	t.Helper()
	for _, c := range cases {
		checkMonad(t, c.op, c.y, c.want, api.OK)
	}
}

func TestMonadExamples(t *testing.T) {
	m := table()
	checkTold(t, []told{
		{api.PNub, m, array(lengths(2, 2), 1, 2, 3, 4)}, {api.PNe, m, list(1, 1, 0)}, {api.PEq, m, array(lengths(2, 3), 1, 0, 1, 0, 1, 0)},
		{api.PNub, scalar(5), list(5)}, {api.PNe, scalar(5), list(1)}, {api.PEq, scalar(5), array(lengths(1, 1), 1)}, {api.PUp, scalar(5), list(0)},
		{api.PNub, list(), list()}, {api.PNe, list(), list()}, {api.PEq, list(), array(lengths(0, 0))}, {api.PNub, array(lengths(3, 0)), array(lengths(1, 0))},
		{api.PUp, m, list(0, 2, 1)}, {api.PDown, m, list(1, 0, 2)}, {api.PDown, list(2, 2, 1), list(0, 1, 2)},
	})
	checkMonad(t, api.PEq, numbered(65), api.Array{}, api.ErrSize)
	checkMonad(t, api.PFrom, m, api.Array{}, api.ErrValence)
	checkMonad(t, api.PAdd, m, api.Array{}, api.ErrArg)
}

// TestKindEdges: scalars, arrays without items, items without atoms, arrays of rank 8, written out.
func TestKindEdges(t *testing.T) {
	eight := array(times(8, 1), 5)
	twoEight := array(append(lengths(2), times(7, 1)...), 5, 5)
	checkTold(t, []told{
		{api.PNub, list(3, 1, 3, 3, 1, 2), list(3, 1, 2)}, {api.PNub, list(7), list(7)}, {api.PNub, list(api.Max, api.Min, api.Max), list(api.Max, api.Min)}, {api.PNub, list(1<<32, 0, 1<<32), list(1<<32, 0)},
		{api.PNub, array(lengths(0, 3)), array(lengths(0, 3))}, {api.PNub, array(lengths(0, 0)), array(lengths(0, 0))}, {api.PNub, array(lengths(1, 0)), array(lengths(1, 0))}, {api.PNub, array(lengths(4096, 0)), array(lengths(1, 0))}, {api.PNub, array(lengths(3, 2, 0)), array(lengths(1, 2, 0))}, {api.PNub, array(lengths(0, 4096)), array(lengths(0, 4096))},
		{api.PNub, eight, eight}, {api.PNub, twoEight, eight}, {api.PNub, array(times(8, 0)), array(times(8, 0))}, {api.PNub, array(lengths(2, 2), 1, 2, 2, 1), array(lengths(2, 2), 1, 2, 2, 1)}, {api.PNub, array(lengths(2, 1, 2), 1, 2, 1, 2), array(lengths(1, 1, 2), 1, 2)},
		{api.PNe, list(3, 1, 3, 3, 1, 2), list(1, 1, 0, 0, 0, 1)}, {api.PNe, array(lengths(0, 3)), list()}, {api.PNe, array(lengths(3, 0)), list(1, 0, 0)}, {api.PNe, eight, list(1)}, {api.PNe, twoEight, list(1, 0)}, {api.PNe, list(1, 1<<32+1, 1), list(1, 1, 0)},
		{api.PEq, list(3, 1, 3), array(lengths(2, 3), 1, 0, 1, 0, 1, 0)}, {api.PEq, array(lengths(0, 3)), array(lengths(0, 0))}, {api.PEq, array(lengths(3, 0)), array(lengths(1, 3), 1, 1, 1)}, {api.PEq, eight, array(lengths(1, 1), 1)}, {api.PEq, twoEight, array(lengths(1, 2), 1, 1)}, {api.PEq, list(2, 1), array(lengths(2, 2), 1, 0, 0, 1)},
	})
}

// TestGradeEdges: likewise in the order of the items.
func TestGradeEdges(t *testing.T) {
	eight := array(times(8, 1), 5)
	twoEight := array(append(lengths(2), times(7, 1)...), 5, 4)
	checkTold(t, []told{
		{api.PUp, list(3, 1, 2), list(1, 2, 0)}, {api.PDown, list(3, 1, 2), list(0, 2, 1)}, {api.PUp, list(2, 1, 2, 1, 2), list(1, 3, 0, 2, 4)}, {api.PDown, list(2, 1, 2, 1, 2), list(0, 2, 4, 1, 3)},
		{api.PUp, list(5, 5, 5), list(0, 1, 2)}, {api.PDown, list(5, 5, 5), list(0, 1, 2)}, {api.PUp, list(), list()}, {api.PDown, list(), list()}, {api.PDown, scalar(5), list(0)},
		{api.PUp, list(0, api.Min, api.Max, -1), list(1, 3, 0, 2)}, {api.PDown, list(0, api.Min, api.Max, -1), list(2, 0, 3, 1)}, {api.PUp, list(1<<32, 1, -1<<32), list(2, 1, 0)},
		{api.PUp, array(lengths(0, 3)), list()}, {api.PUp, array(lengths(3, 0)), list(0, 1, 2)}, {api.PDown, array(lengths(3, 0)), list(0, 1, 2)}, {api.PUp, eight, list(0)}, {api.PUp, twoEight, list(1, 0)}, {api.PDown, twoEight, list(0, 1)}, {api.PUp, array(times(8, 0)), list()},
		// The first atoms that differ decide, not the last ones.
		{api.PUp, array(lengths(3, 2), 2, 1, 1, 9, 2, 0), list(1, 2, 0)}, {api.PDown, array(lengths(3, 2), 2, 1, 1, 9, 2, 0), list(0, 2, 1)}, {api.PUp, array(lengths(2, 2, 2), 0, 0, 1, 0, 0, 0, 0, 9), list(1, 0)},
	})
}

// TestClassesAtTheLimit: as many rows and columns as there may be, and one more.
func TestClassesAtTheLimit(t *testing.T) {
	// kinds different numbers, and the last one again up to a tally.
	some := func(kinds, tally int) api.Array {
		a := zeros(tally)
		for i := range a.Atoms {
			a.Atoms[i] = int64(min(i, kinds-1))
		}
		return a
	}
	for _, c := range []struct {
		kinds, tally int
		fits         bool
	}{
		{64, 64, true}, {1, 4096, true}, {2, 2048, true}, {2, 2049, false}, {2, 4096, false}, {65, 65, false}, {63, 65, true}, {64, 65, false}, {32, 128, true}, {33, 128, false}, {4096, 4096, false}, {3, 1365, true}, {3, 1366, false},
	} {
		y := some(c.kinds, c.tally)
		want, e := wantedMonad(api.PEq, y)
		if c.fits != (e == api.OK) {
			t.Fatalf("the test itself: %d kinds of %d: %v", c.kinds, c.tally, e)
		}
		checkMonad(t, api.PEq, y, want, e)
	}
	checkMonad(t, api.PEq, array(lengths(4096, 0)), array(lengths(1, 4096), slices.Repeat([]int64{1}, 4096)...), api.OK)
}

// TestMonad: every row of arrays of all shapes, of different items and of items that come again.
func TestMonad(t *testing.T) {
	var d dice
	for _, s := range goodShapes() {
		for _, y := range []api.Array{numbered(s...), zeros(s...), d.array(s)} {
			for _, op := range monadOps() {
				if len(y.Atoms) > 1000 && s[0] > 1000 && op != api.PNub {
					continue // TestGreat has these.
				}
				want, e := wantedMonad(op, y)
				checkMonad(t, op, y, want, e)
			}
		}
	}
}

// TestMonadThrown: arrays that are thrown.
func TestMonadThrown(t *testing.T) {
	var d dice
	for range 4000 {
		s := d.shape(8)
		if len(s) > 0 && d.throw(2) == 0 {
			s[0] = d.throw(20)
		}
		y := d.array(s)
		for _, op := range monadOps() {
			want, e := wantedMonad(op, y)
			checkMonad(t, op, y, want, e)
		}
	}
}

// TestGreat: as many items as there may be. (What is told of them is known beforehand: to hold each against each would take long.)
func TestGreat(t *testing.T) {
	falls, turns := zeros(4096), zeros(4096)
	places, back, byTurns, byTurnsDown := zeros(4096), zeros(4096), list(), list()
	for i := range 4096 {
		falls.Atoms[i] = int64(-i)
		turns.Atoms[i] = int64(i % 7)
		places.Atoms[i] = int64(i)
		back.Atoms[i] = int64(4095 - i)
	}
	for kind := range 7 {
		for i := kind; i < 4096; i += 7 {
			byTurns = list(append(byTurns.Atoms, int64(i))...)
		}
		for i := 6 - kind; i < 4096; i += 7 {
			byTurnsDown = list(append(byTurnsDown.Atoms, int64(i))...)
		}
	}
	ones := array(lengths(4096), slices.Repeat([]int64{1}, 4096)...)
	checkTold(t, []told{
		{api.PUp, falls, back}, {api.PDown, falls, places}, {api.PUp, places, places}, {api.PDown, places, back}, {api.PUp, zeros(4096), places}, {api.PDown, zeros(4096), places},
		{api.PUp, turns, byTurns}, {api.PDown, turns, byTurnsDown}, {api.PUp, array(lengths(4096, 0)), places}, {api.PDown, array(lengths(4096, 0)), places}, {api.PUp, array(lengths(4096, 1), turns.Atoms...), byTurns},
		{api.PNub, falls, falls}, {api.PNub, turns, list(0, 1, 2, 3, 4, 5, 6)}, {api.PNe, falls, ones},
	})
}

// TestAsTheyRise: what follows: PFrom of each place that PUp tells gives the items as they rise, and PDown as they fall.
func TestAsTheyRise(t *testing.T) {
	var d dice
	for range 500 {
		y := d.array(append(lengths(d.throw(9)), d.shape(2)...))
		for _, op := range []int{api.PUp, api.PDown} {
			places, _ := Monad(op, y)
			var out []api.Array
			for _, place := range places.Atoms {
				item, _ := Dyad(api.PFrom, scalar(place), y)
				out = append(out, item)
			}
			if !slices.IsSortedFunc(out, func(a, b api.Array) int {
				if op == api.PDown {
					a, b = b, a
				}
				return int(one(ahead(b, a)) - one(ahead(a, b)))
			}) {
				t.Errorf("P7.2: Monad(%d, %s) tells %v", op, brief(y), places.Atoms)
			}
			checkDyad(t, op, y, y, inRow(itemLengths(y), out), api.OK)
		}
	}
}

// TestOnesAreTheNub: what follows: PNe has as many 1 as PNub has items, and PEq as many rows; each of its columns has one 1.
func TestOnesAreTheNub(t *testing.T) {
	var d dice
	for range 500 {
		y := d.array(d.shape(5))
		nubs, _ := Monad(api.PNub, y)
		first, _ := Monad(api.PNe, y)
		classes, _ := Monad(api.PEq, y)
		ones := 0
		for _, n := range first.Atoms {
			ones += int(n)
		}
		if ones != nubs.Shape[0] || ones != classes.Shape[0] || classes.Shape[1] != first.Shape[0] {
			t.Errorf("P7.2: of %s: PNub %s, PNe %s, PEq %s", brief(y), brief(nubs), brief(first), brief(classes))
		}
		for column := range classes.Shape[1] {
			sum := int64(0)
			for row := range classes.Shape[0] {
				sum += classes.Atoms[row*classes.Shape[1]+column]
			}
			if sum != 1 {
				t.Errorf("P7.2: Monad(PEq, %s): %s", brief(y), brief(classes))
			}
		}
	}
}
