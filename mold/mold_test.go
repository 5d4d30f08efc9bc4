package mold

import (
	"slices"
	"testing"

	"abacus/api"
)

func checkHas(t *testing.T, op, valence int, want bool) {
	t.Helper()
	if got := Has(op, valence); got != want {
		t.Errorf("P6.1: Has(%d, %d): %v", op, valence, got)
	}
}

// noValences are numbers that are neither 1 nor 2; some are by 32 or by 8 bits.
func noValences() []int {
	return []int{0, -1, -2, 3, 4, 100, least, least + 1, most, 1 << 32, 1<<32 + 1, 1<<32 + 2, 1<<8 + 1, 1<<8 + 2}
}

// TestHas: every row of both tables, what is no row, and every valence.
func TestHas(t *testing.T) {
	for _, op := range append(monadOps(), noRows()...) {
		checkHas(t, op, 1, slices.Contains(monadOps(), op))
		checkHas(t, op, 2, slices.Contains(dyadOps(), op))
		for _, valence := range noValences() {
			checkHas(t, op, valence, false)
		}
	}
}

// TestHasIsSoInTheCalls: what Has tells is what Monad and Dyad do.
func TestHasIsSoInTheCalls(t *testing.T) {
	for _, op := range append(monadOps(), noRows()...) {
		if _, e := Monad(op, list()); Has(op, 1) != (e == api.OK) {
			t.Errorf("P6.1: Has(%d, 1) is %v, Monad answers %v", op, Has(op, 1), e)
		}
		if _, e := Dyad(op, scalar(0), list(7)); Has(op, 2) != (e == api.OK) {
			t.Errorf("P6.1: Has(%d, 2) is %v, Dyad answers %v", op, Has(op, 2), e)
		}
	}
}

// TestMonadErrorsInOrder: first an array that may not be, then no such row.
func TestMonadErrorsInOrder(t *testing.T) {
	for _, op := range append(monadOps(), noRows()...) {
		for _, y := range wrongArrays() {
			checkMonad(t, op, y, api.Array{}, api.ErrArg)
		}
	}
	for _, op := range noRows() {
		for _, y := range []api.Array{scalar(0), list(), table(), zeros(times(8, 1)...), array(times(8, 0))} {
			checkMonad(t, op, y, api.Array{}, api.ErrArg)
		}
	}
}

// TestDyadErrorsInOrder: first an array that may not be on either side, then no such row, then no dyad in it, then the rank of x.
func TestDyadErrorsInOrder(t *testing.T) {
	for _, op := range append(monadOps(), api.PFrom, api.PAdd, 0, -1, least, most) {
		for _, wrong := range wrongArrays() {
			for _, good := range []api.Array{scalar(-1), list(), table()} {
				checkDyad(t, op, wrong, good, api.Array{}, api.ErrArg)
				checkDyad(t, op, good, wrong, api.Array{}, api.ErrArg)
			}
			checkDyad(t, op, wrong, wrong, api.Array{}, api.ErrArg)
		}
	}
	for _, xy := range [][2]api.Array{
		{scalar(0), scalar(0)}, {table(), table()}, {list(1, 2, 3), table()}, {table(), list(1, 2, 3)}, {list(), list()}, {zeros(times(8, 1)...), scalar(7)},
	} {
		for _, op := range noRows() {
			checkDyad(t, op, xy[0], xy[1], api.Array{}, api.ErrArg)
		}
		for _, op := range noDyads() {
			checkDyad(t, op, xy[0], xy[1], api.Array{}, api.ErrValence)
		}
	}
}

// TestRankOfX: ahead of all that the numbers may be, even if there are none; the other verbs take any rank.
func TestRankOfX(t *testing.T) {
	for _, x := range []api.Array{
		array(lengths(1, 1), 1), array(lengths(1, 1), -1), array(lengths(1, 1), api.Min), array(lengths(1, 3), 5, 5, 5), array(lengths(0, 3)), array(lengths(0, 0)), array(lengths(2, 0)), zeros(times(8, 1)...), array(times(8, 0)), table(),
	} {
		for _, y := range []api.Array{scalar(7), list(), list(7), table(), array(lengths(0, 3)), numbered(times(8, 2)...)} {
			for _, op := range numberOps() {
				checkDyad(t, op, x, y, api.Array{}, api.ErrRank)
			}
			for _, op := range []int{api.PLeft, api.PRight, api.PRavel, api.PStitch, api.PItem} {
				if _, e := Dyad(op, x, y); e == api.ErrRank {
					t.Errorf("P6.3: Dyad(%d, %s, %s): %v", op, brief(x), brief(y), e)
				}
			}
		}
	}
}

// TestFar: no call panics, whatever lengths, ops and valences it is given; beside an error stands nothing.
func TestFar(t *testing.T) {
	odd := append(wrongArrays(), scalar(1), list(), table(), scalar(api.Min), list(api.Min, api.Max), numbered(4096), numbered(times(8, 1)...))
	for _, op := range append(noRows(), monadOps()...) {
		for i, x := range odd {
			y := odd[(i*7+3)%len(odd)]
			for _, call := range []func() (api.Array, api.Errno){
				func() (api.Array, api.Errno) { return Monad(op, x) },
				func() (api.Array, api.Errno) { return Dyad(op, x, y) },
				func() (api.Array, api.Errno) { return Dyad(op, x, odd[len(odd)-1-i%7]) },
			} {
				if a, e := call(); e != api.OK && len(a.Shape)+len(a.Atoms) > 0 {
					t.Errorf("P0.2: op %d of %s: %s beside %v", op, brief(x), brief(a), e)
				}
			}
		}
	}
}

// TestAnswersMayBe: whatever is answered may be handed in again.
func TestAnswersMayBe(t *testing.T) {
	for _, s := range goodShapes() {
		y := numbered(s...)
		for _, op := range monadOps() {
			if a, e := Monad(op, y); e == api.OK && (!mayBe(a.Shape) || len(a.Atoms) != sizeOf(a.Shape)) {
				t.Errorf("P6.2: Monad(%d, %s): %s", op, brief(y), brief(a))
			}
		}
		for _, x := range []api.Array{scalar(0), scalar(1), scalar(-1), list(), list(1), list(0, -1), table(), array(lengths(0, 3)), numbered(4096)} {
			for _, op := range dyadOps() {
				if a, e := Dyad(op, x, y); e == api.OK && (!mayBe(a.Shape) || len(a.Atoms) != sizeOf(a.Shape)) {
					t.Errorf("P6.3: Dyad(%d, %s, %s): %s", op, brief(x), brief(y), brief(a))
				}
			}
		}
	}
}
