package mold

import (
	"testing"

	"abacus/api"
)

func TestMonadExamples(t *testing.T) {
	m, empty := table(), array(lengths(0, 3))
	for _, c := range []struct {
		op      int
		y, want api.Array
	}{
		{api.PTally, m, scalar(2)}, {api.PShape, m, list(2, 3)}, {api.PRavel, m, list(1, 2, 3, 4, 5, 6)}, {api.PStitch, m, m},
		{api.PStitch, list(1, 2, 3), array(lengths(3, 1), 1, 2, 3)}, {api.PStitch, scalar(7), array(lengths(1, 1), 7)}, {api.PStitch, array(lengths(0, 3, 4)), array(lengths(0, 12))},
		{api.PTake, m, list(1, 2, 3)}, {api.PTail, m, list(4, 5, 6)}, {api.PTake, empty, list(0, 0, 0)}, {api.PTail, empty, list(0, 0, 0)}, {api.PTake, scalar(7), scalar(7)}, {api.PTail, scalar(7), scalar(7)},
		{api.PDrop, m, array(lengths(1, 3), 4, 5, 6)}, {api.PCurt, m, array(lengths(1, 3), 1, 2, 3)}, {api.PDrop, scalar(7), list()}, {api.PCurt, scalar(7), list()}, {api.PDrop, empty, empty}, {api.PCurt, empty, empty},
		{api.PRev, m, array(lengths(2, 3), 4, 5, 6, 1, 2, 3)}, {api.PTran, m, array(lengths(3, 2), 1, 4, 2, 5, 3, 6)}, {api.PItem, scalar(7), list(7)},
	} {
		checkMonad(t, c.op, c.y, c.want, api.OK)
	}
	checkMonad(t, api.PItem, zeros(times(8, 1)...), api.Array{}, api.ErrSize)
	checkMonad(t, api.PFrom, m, api.Array{}, api.ErrArg)
	checkMonad(t, api.PTally, array(lengths(2, 3), 1), api.Array{}, api.ErrArg)
}

// TestMonadEdges: scalars, arrays without items, items without atoms, arrays of rank 8, written out.
func TestMonadEdges(t *testing.T) {
	eight, flatEight := numbered(times(8, 2)...), array(times(8, 1), 5)
	for _, c := range []struct {
		op      int
		y, want api.Array
	}{
		{api.PTally, scalar(7), scalar(1)}, {api.PTally, list(), scalar(0)}, {api.PTally, array(lengths(3, 0)), scalar(3)}, {api.PTally, array(lengths(0, 4096)), scalar(0)}, {api.PTally, eight, scalar(2)}, {api.PTally, numbered(4096), scalar(4096)},
		{api.PShape, scalar(7), list()}, {api.PShape, list(), list(0)}, {api.PShape, array(lengths(4096, 0)), list(4096, 0)}, {api.PShape, eight, list(2, 2, 2, 2, 2, 2, 2, 2)},
		{api.PRavel, scalar(7), list(7)}, {api.PRavel, list(), list()}, {api.PRavel, array(lengths(3, 0)), list()}, {api.PRavel, flatEight, list(5)},
		{api.PStitch, list(), array(lengths(0, 1))}, {api.PStitch, array(lengths(3, 0)), array(lengths(3, 0))}, {api.PStitch, array(lengths(3, 2, 0)), array(lengths(3, 0))}, {api.PStitch, array(lengths(0, 64, 64)), array(lengths(0, 4096))}, {api.PStitch, flatEight, array(lengths(1, 1), 5)}, {api.PStitch, eight, array(lengths(2, 128), eight.Atoms...)},
		{api.PItem, list(), array(lengths(1, 0))}, {api.PItem, table(), array(lengths(1, 2, 3), 1, 2, 3, 4, 5, 6)}, {api.PItem, array(times(7, 1), 5), flatEight}, {api.PItem, array(times(7, 0)), array(append(lengths(1), times(7, 0)...))}, {api.PItem, numbered(4096), array(lengths(1, 4096), numbered(4096).Atoms...)},
		{api.PTake, list(), scalar(0)}, {api.PTail, list(), scalar(0)}, {api.PTake, list(7, 8), scalar(7)}, {api.PTail, list(7, 8), scalar(8)}, {api.PTake, array(lengths(3, 0)), list()}, {api.PTail, array(lengths(0, 3, 0)), array(lengths(3, 0))}, {api.PTake, array(lengths(0, 4096)), zeros(4096)}, {api.PTake, flatEight, array(times(7, 1), 5)},
		{api.PDrop, list(), list()}, {api.PCurt, list(), list()}, {api.PDrop, list(7), list()}, {api.PCurt, list(7), list()}, {api.PDrop, list(7, 8, 9), list(8, 9)}, {api.PCurt, list(7, 8, 9), list(7, 8)}, {api.PDrop, array(lengths(3, 0)), array(lengths(2, 0))}, {api.PCurt, array(lengths(1, 0)), array(lengths(0, 0))}, {api.PDrop, flatEight, array(append(lengths(0), times(7, 1)...))},
		{api.PRev, scalar(7), scalar(7)}, {api.PRev, list(), list()}, {api.PRev, list(7, 8, 9), list(9, 8, 7)}, {api.PRev, array(lengths(3, 0)), array(lengths(3, 0))}, {api.PRev, array(lengths(2, 1, 2), 1, 2, 3, 4), array(lengths(2, 1, 2), 3, 4, 1, 2)},
		{api.PTran, scalar(7), scalar(7)}, {api.PTran, list(7, 8, 9), list(7, 8, 9)}, {api.PTran, array(lengths(0, 4096)), array(lengths(4096, 0))}, {api.PTran, array(lengths(2, 3, 2), 1, 2, 3, 4, 5, 6, 7, 8, 9, 10, 11, 12), array(lengths(2, 3, 2), 1, 7, 3, 9, 5, 11, 2, 8, 4, 10, 6, 12)},
		{api.PLeft, scalar(api.Min), scalar(api.Min)}, {api.PRight, list(), list()}, {api.PLeft, eight, eight}, {api.PRight, table(), table()},
	} {
		checkMonad(t, c.op, c.y, c.want, api.OK)
	}
	for _, s := range [][]int{times(8, 2), times(8, 0), append(times(7, 0), 4096)} {
		checkMonad(t, api.PItem, zeros(s...), api.Array{}, api.ErrSize)
	}
}

// TestMonad: every row of arrays of all shapes.
func TestMonad(t *testing.T) {
	for _, op := range monadOps() {
		for _, s := range goodShapes() {
			y := numbered(s...)
			want, e := wantedMonad(op, y)
			checkMonad(t, op, y, want, e)
		}
	}
}

// TestMonadThrown: arrays of shapes that are thrown.
func TestMonadThrown(t *testing.T) {
	var d dice
	for range 3000 {
		y := numbered(d.shape(8)...)
		for _, op := range monadOps() {
			want, e := wantedMonad(op, y)
			checkMonad(t, op, y, want, e)
		}
	}
}

// shape throws a shape of at most so many lengths with few places.
func (d *dice) shape(rank int) []int {
	s := make([]int, d.throw(rank+1))
	for i := range s {
		s[i] = d.throw(4)
		if d.throw(3) > 0 && len(s) > 3 {
			s[i] = 1
		}
	}
	return s
}

// TestTwiceIsNothing: what follows: turned round twice an array is as it was.
func TestTwiceIsNothing(t *testing.T) {
	for _, s := range goodShapes() {
		for _, op := range []int{api.PRev, api.PTran} {
			y := numbered(s...)
			once, _ := Monad(op, y)
			checkMonad(t, op, once, y, api.OK)
		}
	}
}
