package prim

import (
	"testing"

	"abacus/api"
)

// threeTwo is the table of the chapter's examples.
func threeTwo() api.Array { return array(lengths(3, 2), 1, 2, 3, 4, 5, 6) }

func TestExamples(t *testing.T) {
	none := api.Array{}
	checkDyad(t, api.PFrom, list(2, 0), threeTwo(), array(lengths(2, 2), 5, 6, 1, 2), api.OK)
	checkDyad(t, api.PFrom, list(0, 9), threeTwo(), none, api.ErrIndex)
	checkDyad(t, api.PFrom, list(), threeTwo(), array(lengths(0, 2)), api.OK)
	checkDyad(t, api.PFrom, list(), array(lengths(0, 2)), list(), api.OK)
	checkDyad(t, api.PAdd, list(1, 2), list(1, 2, 3), none, api.ErrLength)
	checkMonad(t, api.PIota, array(lengths(2, 1), 2, 3), array(lengths(2, 3), 0, 1, 0, 0, 1, 2), api.OK)
	checkMonad(t, api.PDiv, scalar(5), none, api.ErrValence)
	checkMonad(t, api.PNub, scalar(5), list(5), api.OK)
}

// someGood are arrays that may be, with such among them as the rows refuse: by their rank, their lengths, their numbers.
func someGood() []api.Array {
	return []api.Array{scalar(0), scalar(-7), scalar(api.Min), list(), list(1, -2, 3), list(4097, 1), table(), array(lengths(1, 1), -1), array(lengths(0, 3)), array(lengths(3, 0)), numbered(65), zeros(times(8, 1)...), array(times(8, 1), api.Min), array(times(8, 0))}
}

// TestMonadErrorsInOrder: first an array that may not be, then no such op, then no such valence, then what the cells are refused by.
func TestMonadErrorsInOrder(t *testing.T) {
	none := api.Array{}
	for _, y := range wrongArrays() {
		for _, op := range append(allOps(), noOps()...) {
			checkMonad(t, op, y, none, api.ErrArg)
		}
	}
	for _, y := range someGood() {
		for _, op := range noOps() {
			checkMonad(t, op, y, none, api.ErrArg)
		}
		for _, op := range noMonads() {
			checkMonad(t, op, y, none, api.ErrValence)
		}
	}
}

// TestDyadErrorsInOrder: likewise, on either side; a valence that is not there goes ahead of frames that do not agree.
func TestDyadErrorsInOrder(t *testing.T) {
	none := api.Array{}
	for _, wrong := range wrongArrays() {
		for _, op := range append(allOps(), 0, -1, 44, least, most) {
			for _, good := range []api.Array{scalar(-1), list(), table()} {
				checkDyad(t, op, wrong, good, none, api.ErrArg)
				checkDyad(t, op, good, wrong, none, api.ErrArg)
			}
			checkDyad(t, op, wrong, wrong, none, api.ErrArg)
		}
	}
	for _, x := range someGood() {
		for _, y := range someGood() {
			for _, op := range noOps() {
				checkDyad(t, op, x, y, none, api.ErrArg)
			}
			for _, op := range noDyads() {
				checkDyad(t, op, x, y, none, api.ErrValence)
			}
		}
	}
}

// TestMonads: each row's monad on ordinary arrays, written out.
func TestMonads(t *testing.T) {
	for _, c := range []struct {
		op      int
		y, want api.Array
	}{
		{api.PAdd, table(), table()},
		{api.PSub, table(), array(lengths(2, 3), -1, -2, -3, -4, -5, -6)},
		{api.PMul, list(-5, 0, 9), list(-1, 0, 1)},
		{api.PRes, list(-5, 0, 9), list(5, 0, 9)},
		{api.PMin, list(-5, 9), list(-5, 9)},
		{api.PMax, list(-5, 9), list(-5, 9)},
		{api.PEq, list(4, 5, 4), array(lengths(2, 3), 1, 0, 1, 0, 1, 0)},
		{api.PNe, list(4, 5, 4), list(1, 1, 0)},
		{api.PLe, list(4, 5), list(3, 4)},
		{api.PGe, list(4, 5), list(5, 6)},
		{api.PNor, list(4, 5), list(8, 10)},
		{api.PNand, list(4, 5), list(16, 25)},
		{api.PNot, list(1, 0), list(0, 1)},
		{api.PMatch, list(4, -6), list(2, -3)},
		{api.PFact, list(0, 4), list(1, 24)},
		{api.PTally, table(), scalar(2)},
		{api.PShape, table(), list(2, 3)},
		{api.PRavel, table(), list(1, 2, 3, 4, 5, 6)},
		{api.PStitch, list(1, 2), array(lengths(2, 1), 1, 2)},
		{api.PItem, list(1, 2), array(lengths(1, 2), 1, 2)},
		{api.PTake, table(), list(1, 2, 3)},
		{api.PDrop, table(), array(lengths(1, 3), 4, 5, 6)},
		{api.PTail, table(), list(4, 5, 6)},
		{api.PCurt, table(), array(lengths(1, 3), 1, 2, 3)},
		{api.PRev, table(), array(lengths(2, 3), 4, 5, 6, 1, 2, 3)},
		{api.PTran, table(), array(lengths(3, 2), 1, 4, 2, 5, 3, 6)},
		{api.PIota, list(2, 2), array(lengths(2, 2), 0, 1, 2, 3)},
		{api.PNub, array(lengths(3, 2), 1, 2, 3, 4, 1, 2), array(lengths(2, 2), 1, 2, 3, 4)},
		{api.PUp, list(3, 1, 2), list(1, 2, 0)},
		{api.PDown, list(3, 1, 2), list(0, 2, 1)},
		{api.PBase, table(), list(11, 32)},
		{api.PAnti, list(1, 5), array(lengths(2, 3), 0, 0, 1, 1, 0, 1)},
		{api.PLeft, table(), table()},
		{api.PRight, table(), table()},
		{api.PWhere, array(lengths(2, 2), 1, 2, 0, 1), array(lengths(2, 3), 0, 1, 1, 1, 0, 0)},
	} {
		checkMonad(t, c.op, c.y, c.want, api.OK)
	}
}

// TestDyads: each row's dyad on ordinary arrays, written out.
func TestDyads(t *testing.T) {
	for _, c := range []struct {
		op         int
		x, y, want api.Array
	}{
		{api.PAdd, list(10, 20), table(), array(lengths(2, 3), 11, 12, 13, 24, 25, 26)},
		{api.PSub, table(), list(10, 20), array(lengths(2, 3), -9, -8, -7, -16, -15, -14)},
		{api.PMul, scalar(2), list(3, 4), list(6, 8)},
		{api.PDiv, list(7, -7), scalar(2), list(3, -4)},
		{api.PRes, scalar(3), list(7, -7), list(1, 2)},
		{api.PMin, list(1, 5), list(4, 2), list(1, 2)},
		{api.PMax, list(1, 5), list(4, 2), list(4, 5)},
		{api.PLess, list(1, 2, 3), scalar(2), list(1, 0, 0)},
		{api.PMore, list(1, 2, 3), scalar(2), list(0, 0, 1)},
		{api.PEq, list(1, 2, 3), scalar(2), list(0, 1, 0)},
		{api.PNe, list(1, 2, 3), scalar(2), list(1, 0, 1)},
		{api.PLe, list(1, 2, 3), scalar(2), list(1, 1, 0)},
		{api.PGe, list(1, 2, 3), scalar(2), list(0, 1, 1)},
		{api.PGcd, list(12, 7), scalar(18), list(6, 1)},
		{api.PLcm, list(4, 7), scalar(6), list(12, 42)},
		{api.PNor, list(0, 0, 1, 1), list(0, 1, 0, 1), list(1, 0, 0, 0)},
		{api.PNand, list(0, 0, 1, 1), list(0, 1, 0, 1), list(1, 1, 1, 0)},
		{api.PNot, list(1, 2, 3, 2), list(2, 9), list(1, 3)},
		{api.PMatch, list(1, 2), list(1, 2), scalar(1)},
		{api.PPow, scalar(2), list(0, 3), list(1, 8)},
		{api.PFact, scalar(2), list(4, 5), list(6, 10)},
		{api.PTally, list(0, 2), table(), array(lengths(2, 3), 4, 5, 6, 4, 5, 6)},
		{api.PTally, array(lengths(2, 2), 0, 1, 1, 1), table(), array(lengths(2, 2, 3), 4, 5, 6, 0, 0, 0, 1, 2, 3, 4, 5, 6)},
		{api.PShape, list(2, 2), scalar(7), array(lengths(2, 2), 7, 7, 7, 7)},
		{api.PShape, array(lengths(2, 1), 3, 1), list(8, 9), array(lengths(2, 3), 8, 9, 8, 8, 0, 0)},
		{api.PRavel, list(1, 2), scalar(3), list(1, 2, 3)},
		{api.PStitch, list(1, 2), list(3, 4), array(lengths(2, 2), 1, 3, 2, 4)},
		{api.PItem, list(1, 2), list(3, 4), array(lengths(2, 2), 1, 2, 3, 4)},
		{api.PFrom, array(lengths(2, 2), 0, 1, -1, 0), list(7, 8, 9), array(lengths(2, 2), 7, 8, 9, 7)},
		{api.PTake, array(lengths(2, 1), 1, -2), list(7, 8, 9), array(lengths(2, 2), 7, 0, 8, 9)},
		{api.PDrop, array(lengths(2, 1), 1, -2), list(7, 8, 9), array(lengths(2, 2), 8, 9, 7, 0)},
		{api.PRev, array(lengths(2, 1), 1, -1), list(7, 8, 9), array(lengths(2, 3), 8, 9, 7, 9, 7, 8)},
		{api.PTran, array(lengths(2, 1), 0, 1), table(), array(lengths(2, 3, 3), 1, 4, 0, 2, 5, 0, 3, 6, 0, 1, 2, 3, 4, 5, 6, 0, 0, 0)},
		{api.PIota, list(5, 6, 5), list(6, 9), list(1, 3)},
		{api.PIn, list(6, 9), list(5, 6, 5), list(1, 0)},
		{api.PUp, list(10, 20, 30), list(3, 1, 2), list(20, 30, 10)},
		{api.PDown, list(10, 20, 30), list(3, 1, 2), list(10, 30, 20)},
		{api.PBase, scalar(10), table(), list(123, 456)},
		{api.PBase, array(lengths(2, 3), 10, 10, 10, 2, 2, 2), list(1, 2, 3), array(lengths(2), 123, 11)},
		{api.PAnti, list(10, 10), list(12, 345), array(lengths(2, 2), 1, 2, 4, 5)},
		{api.PAnti, array(lengths(2, 2), 10, 10, 0, 2), scalar(7), array(lengths(2, 2), 0, 7, 3, 1)},
		{api.PLeft, list(1, 2), table(), list(1, 2)},
		{api.PRight, list(1, 2), table(), table()},
	} {
		checkDyad(t, c.op, c.x, c.y, c.want, api.OK)
	}
}

// TestFar: no call panics, whatever it is given; beside an error stands nothing.
func TestFar(t *testing.T) {
	odd := append(wrongArrays(), scalar(1), list(), table(), scalar(api.Min), list(api.Min, api.Max), list(api.Max, api.Max), numbered(4096), numbered(64, 64), numbered(times(8, 1)...), numbered(times(8, 2)...), array(lengths(0, 4096)), array(lengths(4096, 0)))
	for _, op := range append(noOps(), allOps()...) {
		for i, x := range odd {
			y := odd[(i*7+3)%len(odd)]
			for _, call := range []func() (api.Array, api.Errno){
				func() (api.Array, api.Errno) { return Monad(op, x) },
				func() (api.Array, api.Errno) { return Dyad(op, x, y) },
				func() (api.Array, api.Errno) { return Dyad(op, x, odd[len(odd)-1-i%10]) },
			} {
				if a, e := call(); e != api.OK && len(a.Shape)+len(a.Atoms) > 0 {
					t.Errorf("P0.2: op %d of %s: %s beside %v", op, brief(x), brief(a), e)
				}
			}
		}
	}
}
