package digit

import (
	"slices"
	"testing"

	"abacus/api"
)

func checkHas(t *testing.T, op, valence int, want bool) {
	t.Helper()
	if got := Has(op, valence); got != want {
		t.Errorf("P8.1: Has(%d, %d): %v", op, valence, got)
	}
}

// noValences are numbers that are neither 1 nor 2; some are by 32 or by 8 bits.
func noValences() []int {
	return []int{0, -1, -2, 3, 4, 100, least, least + 1, most, 1 << 32, 1<<32 + 1, 1<<32 + 2, 1<<8 + 1, 1<<8 + 2}
}

// TestHas: every row of the tables, what is no row, and every valence.
func TestHas(t *testing.T) {
	for _, op := range append(tableOps(), noRows()...) {
		checkHas(t, op, 1, slices.Contains(monadOps(), op))
		checkHas(t, op, 2, slices.Contains(dyadOps(), op))
		for _, valence := range noValences() {
			checkHas(t, op, valence, false)
		}
	}
}

// TestHasIsSoInTheCalls: what Has tells is what Monad and Dyad do.
func TestHasIsSoInTheCalls(t *testing.T) {
	for _, op := range append(tableOps(), noRows()...) {
		if _, e := Monad(op, list(7)); Has(op, 1) != (e == api.OK) {
			t.Errorf("P8.1: Has(%d, 1) is %v, Monad answers %v", op, Has(op, 1), e)
		}
		if _, e := Dyad(op, list(2), scalar(7)); Has(op, 2) != (e == api.OK) {
			t.Errorf("P8.1: Has(%d, 2) is %v, Dyad answers %v", op, Has(op, 2), e)
		}
	}
}

// someGood are arrays that may be, with such among them as the rows refuse: by their rank, their lengths, their numbers.
func someGood() []api.Array {
	return []api.Array{scalar(0), scalar(-7), scalar(api.Min), list(), list(1, -2, 3), list(4097, 1), table(), array(lengths(1, 1), -1), array(lengths(0, 3)), array(lengths(3, 0)), numbered(65), zeros(times(8, 1)...), array(times(8, 1), api.Min), array(times(8, 0))}
}

// TestMonadErrorsInOrder: first an array that may not be, then no such row, then none for the valence, then the rank and the row's own.
func TestMonadErrorsInOrder(t *testing.T) {
	for _, op := range append(tableOps(), noRows()...) {
		for _, y := range wrongArrays() {
			checkMonad(t, op, y, api.Array{}, api.ErrArg)
		}
	}
	for _, y := range someGood() {
		for _, op := range noRows() {
			checkMonad(t, op, y, api.Array{}, api.ErrArg)
		}
		for _, op := range noMonads() {
			checkMonad(t, op, y, api.Array{}, api.ErrValence)
		}
	}
}

// TestDyadErrorsInOrder: likewise, on either side.
func TestDyadErrorsInOrder(t *testing.T) {
	for _, op := range append(tableOps(), api.PTake, api.PAdd, 0, -1, least, most) {
		for _, wrong := range wrongArrays() {
			for _, good := range []api.Array{scalar(-1), list(), table()} {
				checkDyad(t, op, wrong, good, api.Array{}, api.ErrArg)
				checkDyad(t, op, good, wrong, api.Array{}, api.ErrArg)
			}
			checkDyad(t, op, wrong, wrong, api.Array{}, api.ErrArg)
		}
	}
	for _, x := range someGood() {
		for _, y := range someGood() {
			for _, op := range noRows() {
				checkDyad(t, op, x, y, api.Array{}, api.ErrArg)
			}
			for _, op := range noDyads() {
				checkDyad(t, op, x, y, api.Array{}, api.ErrValence)
			}
		}
	}
}

// TestRanks: a rank that a row does not take is refused ahead of all that the row itself refuses.
func TestRanks(t *testing.T) {
	none := api.Array{}
	high := []api.Array{table(), array(lengths(1, 1), 2), array(lengths(1, 1), -1), array(lengths(1, 2), 5000, api.Min), array(lengths(0, 0)), array(lengths(3, 0)), array(lengths(64, 64), make([]int64, 4096)...), array(times(8, 1), -1), array(times(8, 1), 4097), array(times(8, 0)), array(append(times(7, 1), 2), api.Max, api.Max)}
	low := []api.Array{scalar(2), scalar(-1), scalar(api.Min), list(), list(-1), list(-1, 4097, api.Max), numbered(4096)}
	for _, y := range high {
		for _, op := range []int{api.PIota, api.PWhere, api.PBase} {
			checkMonad(t, op, y, none, api.ErrRank)
		}
		for _, other := range append(low, high...) {
			for _, op := range dyadOps() {
				checkDyad(t, op, y, other, none, api.ErrRank)
			}
			checkDyad(t, api.PBase, other, y, none, api.ErrRank)
			checkDyad(t, api.PAnti, other, y, none, api.ErrRank)
		}
	}
	for _, y := range low {
		if len(y.Shape) == 0 {
			continue
		}
		for _, x := range low {
			checkDyad(t, api.PAnti, x, y, none, api.ErrRank)
		}
	}
}

// TestFar: no call panics, whatever lengths, ops and valences it is given; beside an error stands nothing.
func TestFar(t *testing.T) {
	odd := append(wrongArrays(), scalar(1), list(), table(), scalar(api.Min), list(api.Min, api.Max), list(api.Max, api.Max), repeats(4096, api.Max), repeats(4096, 1), numbered(4096), numbered(times(8, 1)...))
	for _, op := range append(noRows(), tableOps()...) {
		for i, x := range odd {
			y := odd[(i*7+3)%len(odd)]
			for _, call := range []func() (api.Array, api.Errno){
				func() (api.Array, api.Errno) { return Monad(op, x) },
				func() (api.Array, api.Errno) { return Dyad(op, x, y) },
				func() (api.Array, api.Errno) { return Dyad(op, x, odd[len(odd)-1-i%10]) },
			} {
				if a, e := call(); e != api.OK && len(a.Shape)+len(a.Atoms) > 0 {
					t.Errorf("P0.2: op %d of %s: %s beside %v", op, brief(x), brief(a), e)
				}
			}
		}
	}
}
