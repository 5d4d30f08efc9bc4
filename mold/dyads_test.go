package mold

import (
	"slices"
	"testing"

	"abacus/api"
)

// said is a call of Dyad and what it is to answer.
type said struct {
	op         int
	x, y, want api.Array
	e          api.Errno
}

func checkSaid(t *testing.T, cases []said) {
	t.Helper()
	for _, c := range cases {
		checkDyad(t, c.op, c.x, c.y, c.want, c.e)
	}
}

func TestDyadExamples(t *testing.T) {
	m, none := table(), api.Array{}
	checkSaid(t, []said{
		{api.PShape, list(2, 2), m, array(lengths(2, 2, 3), 1, 2, 3, 4, 5, 6, 1, 2, 3, 4, 5, 6), api.OK},
		{api.PShape, scalar(0), list(), list(), api.OK}, {api.PShape, scalar(2), list(), none, api.ErrLength}, {api.PShape, list(), m, list(1, 2, 3), api.OK}, {api.PShape, scalar(-1), m, none, api.ErrDomain}, {api.PShape, scalar(5000), scalar(7), none, api.ErrSize},
		{api.PRavel, scalar(7), scalar(8), list(7, 8), api.OK}, {api.PRavel, m, scalar(9), array(lengths(3, 3), 1, 2, 3, 4, 5, 6, 9, 9, 9), api.OK}, {api.PRavel, m, list(7, 8), array(lengths(3, 3), 1, 2, 3, 4, 5, 6, 7, 8, 0), api.OK},
		{api.PRavel, array(lengths(1, 1, 2), 7, 8), m, array(lengths(2, 2, 3), 7, 8, 0, 0, 0, 0, 1, 2, 3, 4, 5, 6), api.OK},
		{api.PStitch, m, list(7, 8), array(lengths(2, 4), 1, 2, 3, 7, 4, 5, 6, 8), api.OK}, {api.PStitch, m, list(1, 2, 3), none, api.ErrLength}, {api.PStitch, scalar(7), scalar(8), list(7, 8), api.OK},
		{api.PItem, m, scalar(9), array(lengths(2, 2, 3), 1, 2, 3, 4, 5, 6, 9, 9, 9, 9, 9, 9), api.OK}, {api.PItem, list(7), list(1, 2, 3), array(lengths(2, 3), 7, 0, 0, 1, 2, 3), api.OK},
		{api.PTake, list(3, -2), m, array(lengths(3, 2), 2, 3, 5, 6, 0, 0), api.OK}, {api.PTake, scalar(-3), list(1, 2), list(0, 1, 2), api.OK}, {api.PTake, scalar(2), scalar(7), list(7, 0), api.OK}, {api.PTake, list(1, 1, 1), m, none, api.ErrLength}, {api.PTake, scalar(api.Min), m, none, api.ErrSize},
		{api.PDrop, scalar(1), m, array(lengths(1, 3), 4, 5, 6), api.OK}, {api.PDrop, list(0, -2), m, array(lengths(2, 1), 1, 4), api.OK}, {api.PDrop, scalar(5), m, array(lengths(0, 3)), api.OK}, {api.PDrop, scalar(1), scalar(7), list(), api.OK},
		{api.PRev, scalar(1), m, array(lengths(2, 3), 4, 5, 6, 1, 2, 3), api.OK}, {api.PRev, list(0, -1), m, array(lengths(2, 3), 3, 1, 2, 6, 4, 5), api.OK}, {api.PRev, scalar(9), scalar(7), scalar(7), api.OK}, {api.PRev, list(1, 1), scalar(7), none, api.ErrLength},
		{api.PTran, scalar(0), m, array(lengths(3, 2), 1, 4, 2, 5, 3, 6), api.OK}, {api.PTran, scalar(-2), m, array(lengths(3, 2), 1, 4, 2, 5, 3, 6), api.OK}, {api.PTran, scalar(2), m, none, api.ErrIndex}, {api.PTran, list(0, 0), m, none, api.ErrDomain},
		{api.PTail, m, m, none, api.ErrValence},
	})
}

func TestReshapeEdges(t *testing.T) {
	m, none := table(), api.Array{}
	checkSaid(t, []said{
		{api.PShape, scalar(3), scalar(7), list(7, 7, 7), api.OK}, {api.PShape, list(), scalar(7), scalar(7), api.OK}, {api.PShape, list(), list(), none, api.ErrLength}, {api.PShape, list(), array(lengths(0, 3)), none, api.ErrLength}, {api.PShape, list(), array(lengths(0, 0)), none, api.ErrLength},
		{api.PShape, scalar(1), m, array(lengths(1, 3), 1, 2, 3), api.OK}, {api.PShape, list(3), m, array(lengths(3, 3), 1, 2, 3, 4, 5, 6, 1, 2, 3), api.OK}, {api.PShape, scalar(5), list(1, 2), list(1, 2, 1, 2, 1), api.OK}, {api.PShape, list(0, 2), m, array(lengths(0, 2, 3)), api.OK}, {api.PShape, list(2, 0), array(lengths(0, 3)), array(lengths(2, 0, 3)), api.OK},
		// Items that there are, though they have no atoms.
		{api.PShape, scalar(2), array(lengths(3, 0)), array(lengths(2, 0)), api.OK}, {api.PShape, list(), array(lengths(3, 0)), list(), api.OK}, {api.PShape, list(4096), array(lengths(1, 0)), array(lengths(4096, 0)), api.OK},
		// The order of the errors: a number below 0, then the shape, then no items.
		{api.PShape, list(5000, -1), list(), none, api.ErrDomain}, {api.PShape, list(0, api.Min), m, none, api.ErrDomain}, {api.PShape, list(1, 1, 1, 1, 1, 1, 1, 1, 1, -1), m, none, api.ErrDomain}, {api.PShape, scalar(5000), list(), none, api.ErrSize}, {api.PShape, scalar(1366), array(lengths(0, 3)), none, api.ErrSize}, {api.PShape, scalar(1365), array(lengths(0, 3)), none, api.ErrLength}, {api.PShape, numbered(4096), m, none, api.ErrDomain},
		// What may be and what may not: a length of 0 hides no others.
		{api.PShape, list(0, 4097), scalar(7), none, api.ErrSize}, {api.PShape, list(0, 4096), scalar(7), array(lengths(0, 4096)), api.OK}, {api.PShape, list(api.Max, 0), scalar(7), none, api.ErrSize}, {api.PShape, list(1<<32, 1<<32), scalar(7), none, api.ErrSize}, {api.PShape, list(1<<62, 4), list(), none, api.ErrSize}, {api.PShape, list(0, 1366), m, none, api.ErrSize}, {api.PShape, scalar(1 << 32), scalar(7), none, api.ErrSize},
		{api.PShape, list(1, 1, 1, 1, 1, 1, 1, 1), scalar(7), array(times(8, 1), 7), api.OK}, {api.PShape, list(1, 1, 1, 1, 1, 1, 1, 1, 1), scalar(7), none, api.ErrSize}, {api.PShape, list(1, 1, 1, 1, 1, 1, 1, 1), m, none, api.ErrSize}, {api.PShape, list(0, 0, 0, 0, 0, 0, 0, 0, 0), list(), none, api.ErrSize},
		{api.PShape, scalar(1), zeros(times(8, 1)...), zeros(times(8, 1)...), api.OK}, {api.PShape, list(1, 1), zeros(times(8, 1)...), none, api.ErrSize}, {api.PShape, zeros(4096), m, none, api.ErrSize},
	})
}

func TestTakeEdges(t *testing.T) {
	m, none := table(), api.Array{}
	checkSaid(t, []said{
		{api.PTake, list(), m, m, api.OK}, {api.PTake, list(), scalar(7), scalar(7), api.OK}, {api.PTake, scalar(0), m, array(lengths(0, 3)), api.OK}, {api.PTake, list(1), m, array(lengths(1, 3), 1, 2, 3), api.OK}, {api.PTake, scalar(-1), m, array(lengths(1, 3), 4, 5, 6), api.OK}, {api.PTake, list(2, 2), m, array(lengths(2, 2), 1, 2, 4, 5), api.OK}, {api.PTake, list(-1, -4), m, array(lengths(1, 4), 0, 4, 5, 6), api.OK}, {api.PTake, list(-3, 1), m, array(lengths(3, 1), 0, 1, 4), api.OK},
		// A scalar has as many lengths of 1 as it takes.
		{api.PTake, scalar(0), scalar(7), list(), api.OK}, {api.PTake, scalar(1), scalar(7), list(7), api.OK}, {api.PTake, scalar(-2), scalar(7), list(0, 7), api.OK}, {api.PTake, list(2, -2), scalar(7), array(lengths(2, 2), 0, 7, 0, 0), api.OK}, {api.PTake, list(1, 1, 1, 1, 1, 1, 1, 1), scalar(7), array(times(8, 1), 7), api.OK}, {api.PTake, list(1, 1, 1, 1, 1, 1, 1, 1, 1), scalar(7), none, api.ErrSize}, {api.PTake, list(0, 0, 0, 0, 0, 0, 0, 0, 0), scalar(7), none, api.ErrSize}, {api.PTake, zeros(4096), scalar(7), none, api.ErrSize}, {api.PTake, numbered(4096), scalar(7), none, api.ErrSize},
		// No places in y.
		{api.PTake, scalar(2), list(), list(0, 0), api.OK}, {api.PTake, scalar(-2), array(lengths(0, 3)), zeros(2, 3), api.OK}, {api.PTake, list(2, 2), array(lengths(2, 0)), zeros(2, 2), api.OK}, {api.PTake, list(-1, -1), array(lengths(0, 0)), zeros(1, 1), api.OK}, {api.PTake, scalar(5), array(lengths(2, 0)), array(lengths(5, 0)), api.OK}, {api.PTake, list(0, 4096), array(lengths(0, 3)), array(lengths(0, 4096)), api.OK},
		// The order of the errors, and answers that may not be.
		{api.PTake, list(1, 1), list(), none, api.ErrLength}, {api.PTake, list(api.Min, 1), list(1, 2), none, api.ErrLength}, {api.PTake, list(5000, 5000, 5000), m, none, api.ErrLength}, {api.PTake, scalar(1366), m, none, api.ErrSize}, {api.PTake, scalar(-1366), m, none, api.ErrSize}, {api.PTake, scalar(4097), scalar(7), none, api.ErrSize}, {api.PTake, scalar(-4097), list(7), none, api.ErrSize}, {api.PTake, list(0, 4097), m, none, api.ErrSize}, {api.PTake, list(0, api.Min), m, none, api.ErrSize}, {api.PTake, list(api.Max, 0), m, none, api.ErrSize}, {api.PTake, list(64, -65), m, none, api.ErrSize}, {api.PTake, list(1<<32, 1<<32), m, none, api.ErrSize}, {api.PTake, scalar(1<<32 + 1), m, none, api.ErrSize}, {api.PTake, scalar(api.Min + 1), m, none, api.ErrSize}, {api.PTake, list(api.Min, api.Min), m, none, api.ErrSize},
	})
	long, _ := Dyad(api.PTake, scalar(4096), list(7))
	if !slices.Equal(long.Shape, lengths(4096)) || len(long.Atoms) != 4096 || long.Atoms[0] != 7 || slices.ContainsFunc(long.Atoms[1:], func(n int64) bool { return n != 0 }) {
		t.Errorf("P6.3: 4096 {. 1 | 7: %s", brief(long))
	}
}

func TestDropEdges(t *testing.T) {
	m, none := table(), api.Array{}
	checkSaid(t, []said{
		{api.PDrop, list(), m, m, api.OK}, {api.PDrop, list(), scalar(7), scalar(7), api.OK}, {api.PDrop, scalar(0), m, m, api.OK}, {api.PDrop, scalar(-1), m, array(lengths(1, 3), 1, 2, 3), api.OK}, {api.PDrop, list(1, 1), m, array(lengths(1, 2), 5, 6), api.OK}, {api.PDrop, list(-1, 2), m, array(lengths(1, 1), 3), api.OK}, {api.PDrop, list(0, 3), m, array(lengths(2, 0)), api.OK}, {api.PDrop, list(-2, -3), m, array(lengths(0, 0)), api.OK},
		{api.PDrop, scalar(2), m, array(lengths(0, 3)), api.OK}, {api.PDrop, scalar(-5), m, array(lengths(0, 3)), api.OK}, {api.PDrop, scalar(api.Min), m, array(lengths(0, 3)), api.OK}, {api.PDrop, scalar(api.Max), m, array(lengths(0, 3)), api.OK}, {api.PDrop, list(api.Min+1, api.Max), m, array(lengths(0, 0)), api.OK}, {api.PDrop, scalar(1 << 32), m, array(lengths(0, 3)), api.OK}, {api.PDrop, scalar(-1 << 32), m, array(lengths(0, 3)), api.OK}, {api.PDrop, scalar(4097), numbered(4096), list(), api.OK},
		{api.PDrop, scalar(4095), numbered(4096), list(numbered(4096).Atoms[4095]), api.OK}, {api.PDrop, scalar(-4095), numbered(4096), list(numbered(4096).Atoms[0]), api.OK},
		{api.PDrop, scalar(0), scalar(7), list(7), api.OK}, {api.PDrop, list(0, 0), scalar(7), array(lengths(1, 1), 7), api.OK}, {api.PDrop, list(0, -1), scalar(7), array(lengths(1, 0)), api.OK}, {api.PDrop, scalar(api.Min), scalar(7), list(), api.OK}, {api.PDrop, list(0, 0, 0, 0, 0, 0, 0, 0), scalar(7), array(times(8, 1), 7), api.OK}, {api.PDrop, list(0, 0, 0, 0, 0, 0, 0, 0, 0), scalar(7), none, api.ErrSize}, {api.PDrop, list(1, 1, 1, 1, 1, 1, 1, 1, 1), scalar(7), none, api.ErrSize}, {api.PDrop, numbered(4096), scalar(7), none, api.ErrSize},
		{api.PDrop, scalar(1), list(), list(), api.OK}, {api.PDrop, scalar(-1), array(lengths(0, 3)), array(lengths(0, 3)), api.OK}, {api.PDrop, list(1, 1), array(lengths(3, 0)), array(lengths(2, 0)), api.OK},
		{api.PDrop, list(1, 1, 1), m, none, api.ErrLength}, {api.PDrop, list(0, 0), list(), none, api.ErrLength}, {api.PDrop, list(0, 0, 0, 0, 0, 0, 0, 0, 0), numbered(times(8, 2)...), none, api.ErrLength},
	})
}

func TestRotateEdges(t *testing.T) {
	m, five, none := table(), list(1, 2, 3, 4, 5), api.Array{}
	checkSaid(t, []said{
		{api.PRev, list(), m, m, api.OK}, {api.PRev, list(), scalar(7), scalar(7), api.OK}, {api.PRev, list(api.Min), scalar(7), scalar(7), api.OK}, {api.PRev, list(0, 0), scalar(7), none, api.ErrLength}, {api.PRev, list(0, 0), five, none, api.ErrLength}, {api.PRev, list(0, 0, 0), m, none, api.ErrLength}, {api.PRev, list(0, 0), list(), none, api.ErrLength},
		{api.PRev, scalar(2), five, list(3, 4, 5, 1, 2), api.OK}, {api.PRev, scalar(-2), five, list(4, 5, 1, 2, 3), api.OK}, {api.PRev, scalar(7), five, list(3, 4, 5, 1, 2), api.OK}, {api.PRev, scalar(-12), five, list(4, 5, 1, 2, 3), api.OK}, {api.PRev, scalar(5), five, five, api.OK}, {api.PRev, scalar(-5), five, five, api.OK}, {api.PRev, scalar(0), five, five, api.OK},
		// 2^63 is 3 more than a multiple of 5.
		{api.PRev, scalar(api.Max), five, list(3, 4, 5, 1, 2), api.OK}, {api.PRev, scalar(api.Min), five, list(3, 4, 5, 1, 2), api.OK}, {api.PRev, scalar(api.Min + 1), five, list(4, 5, 1, 2, 3), api.OK}, {api.PRev, scalar(api.Max - 1), five, list(2, 3, 4, 5, 1), api.OK},
		{api.PRev, list(1, 1), m, array(lengths(2, 3), 5, 6, 4, 2, 3, 1), api.OK}, {api.PRev, list(1, api.Max), m, array(lengths(2, 3), 5, 6, 4, 2, 3, 1), api.OK},
		{api.PRev, scalar(1), list(), list(), api.OK}, {api.PRev, list(3, api.Min), array(lengths(0, 3)), array(lengths(0, 3)), api.OK}, {api.PRev, list(1, 1), array(lengths(3, 0)), array(lengths(3, 0)), api.OK}, {api.PRev, list(api.Max), list(7), list(7), api.OK},
	})
}

func TestArrangeEdges(t *testing.T) {
	m, none := table(), api.Array{}
	y := array(lengths(2, 1, 3), 1, 2, 3, 4, 5, 6)
	checkSaid(t, []said{
		{api.PTran, list(), m, m, api.OK}, {api.PTran, list(), scalar(7), scalar(7), api.OK}, {api.PTran, scalar(1), m, m, api.OK}, {api.PTran, scalar(-1), m, m, api.OK}, {api.PTran, list(1, 0), m, array(lengths(3, 2), 1, 4, 2, 5, 3, 6), api.OK}, {api.PTran, list(0, 1), m, m, api.OK}, {api.PTran, list(-2, -1), m, m, api.OK}, {api.PTran, scalar(0), list(7, 8), list(7, 8), api.OK}, {api.PTran, scalar(-1), list(), list(), api.OK},
		{api.PTran, scalar(0), y, array(lengths(1, 3, 2), 1, 4, 2, 5, 3, 6), api.OK}, {api.PTran, scalar(1), y, array(lengths(2, 3, 1), 1, 2, 3, 4, 5, 6), api.OK}, {api.PTran, list(2, 0), y, array(lengths(1, 3, 2), 1, 4, 2, 5, 3, 6), api.OK}, {api.PTran, list(0, 2), y, array(lengths(1, 2, 3), 1, 2, 3, 4, 5, 6), api.OK}, {api.PTran, list(-1, 0, 1), y, array(lengths(3, 2, 1), 1, 4, 2, 5, 3, 6), api.OK}, {api.PTran, scalar(0), array(lengths(0, 4096)), array(lengths(4096, 0)), api.OK},
		// Number by number: the first one that is refused tells.
		{api.PTran, list(0, -2), m, none, api.ErrDomain}, {api.PTran, list(-2, 0), m, none, api.ErrDomain}, {api.PTran, list(0, 0, 5), m, none, api.ErrDomain}, {api.PTran, list(0, 5, 0), m, none, api.ErrIndex}, {api.PTran, list(5, 0, 0), m, none, api.ErrIndex}, {api.PTran, list(0, 1, 0), m, none, api.ErrDomain}, {api.PTran, list(0, 1, 2), m, none, api.ErrIndex}, {api.PTran, list(0, 1, -3), m, none, api.ErrIndex},
		{api.PTran, scalar(-3), m, none, api.ErrIndex}, {api.PTran, scalar(api.Min), m, none, api.ErrIndex}, {api.PTran, scalar(api.Max), m, none, api.ErrIndex}, {api.PTran, scalar(1 << 32), m, none, api.ErrIndex}, {api.PTran, scalar(0), scalar(7), none, api.ErrIndex}, {api.PTran, scalar(-1), scalar(7), none, api.ErrIndex}, {api.PTran, zeros(4096), m, none, api.ErrDomain}, {api.PTran, scalar(1), list(), none, api.ErrIndex},
	})
}

func TestJoinEdges(t *testing.T) {
	m, none := table(), api.Array{}
	eight := array(times(8, 1), 5)
	checkSaid(t, []said{
		{api.PRavel, scalar(9), m, array(lengths(3, 3), 9, 9, 9, 1, 2, 3, 4, 5, 6), api.OK}, {api.PRavel, scalar(9), list(1, 2), list(9, 1, 2), api.OK}, {api.PRavel, list(1, 2), scalar(9), list(1, 2, 9), api.OK}, {api.PRavel, scalar(9), list(), list(9), api.OK}, {api.PRavel, array(lengths(0, 3)), scalar(9), array(lengths(1, 3), 9, 9, 9), api.OK}, {api.PRavel, scalar(9), array(lengths(2, 0)), array(lengths(3, 0)), api.OK},
		// A list of one is no scalar: it is laid into the beginning.
		{api.PRavel, m, list(9), array(lengths(3, 3), 1, 2, 3, 4, 5, 6, 9, 0, 0), api.OK}, {api.PRavel, list(9), m, array(lengths(3, 3), 9, 0, 0, 1, 2, 3, 4, 5, 6), api.OK}, {api.PRavel, list(), m, array(lengths(3, 3), 0, 0, 0, 1, 2, 3, 4, 5, 6), api.OK}, {api.PRavel, m, list(1, 2, 3, 4), array(lengths(3, 4), 1, 2, 3, 0, 4, 5, 6, 0, 1, 2, 3, 4), api.OK}, {api.PRavel, list(), list(), list(), api.OK}, {api.PRavel, list(1), list(), list(1), api.OK}, {api.PRavel, list(), list(1), list(1), api.OK},
		// Lengths count though there are no items.
		{api.PRavel, m, array(lengths(0, 5)), array(lengths(2, 5), 1, 2, 3, 0, 0, 4, 5, 6, 0, 0), api.OK}, {api.PRavel, array(lengths(0, 5)), m, array(lengths(2, 5), 1, 2, 3, 0, 0, 4, 5, 6, 0, 0), api.OK}, {api.PRavel, array(lengths(0, 5)), array(lengths(0, 2)), array(lengths(0, 5)), api.OK}, {api.PRavel, array(lengths(2, 0)), array(lengths(1, 2), 7, 8), array(lengths(3, 2), 0, 0, 0, 0, 7, 8), api.OK}, {api.PRavel, array(lengths(0, 0, 2)), m, array(lengths(1, 2, 3), 1, 2, 3, 4, 5, 6), api.OK}, {api.PRavel, array(lengths(2, 0)), array(lengths(3, 0)), array(lengths(5, 0)), api.OK},
		{api.PRavel, m, array(lengths(1, 1, 2), 7, 8), array(lengths(2, 2, 3), 1, 2, 3, 4, 5, 6, 7, 8, 0, 0, 0, 0), api.OK}, {api.PRavel, eight, scalar(7), array(append(lengths(2), times(7, 1)...), 5, 7), api.OK}, {api.PRavel, eight, list(7, 8), array(append(append(lengths(2), times(6, 1)...), 2), 5, 0, 7, 8), api.OK}, {api.PRavel, eight, eight, array(append(lengths(2), times(7, 1)...), 5, 5), api.OK},
		{api.PRavel, numbered(4096), scalar(7), none, api.ErrSize}, {api.PRavel, scalar(7), numbered(4096), none, api.ErrSize}, {api.PRavel, list(7), numbered(4096), none, api.ErrSize}, {api.PRavel, numbered(4096), numbered(4096), none, api.ErrSize}, {api.PRavel, array(lengths(0, 4096)), zeros(2, 1), none, api.ErrSize}, {api.PRavel, array(lengths(0, 4096, 1)), array(lengths(0, 1, 2)), none, api.ErrSize}, {api.PRavel, array(lengths(4096, 0)), array(lengths(1, 0)), none, api.ErrSize}, {api.PRavel, numbered(2048), zeros(2, 2), none, api.ErrSize}, {api.PRavel, numbered(1366), zeros(2, 2), none, api.ErrSize}, {api.PRavel, numbered(1365), zeros(2, 2), array(lengths(3, 1365), slices.Concat(numbered(1365).Atoms, make([]int64, 2730))...), api.OK},
		{api.PRavel, numbered(4095), scalar(7), list(append(numbered(4095).Atoms, 7)...), api.OK}, {api.PRavel, numbered(4096), list(), numbered(4096), api.OK}, {api.PRavel, array(lengths(0, 4096)), array(lengths(1, 1), 7), array(lengths(1, 4096), append(list(7).Atoms, make([]int64, 4095)...)...), api.OK},
	})
}

func TestStitchEdges(t *testing.T) {
	m, none := table(), api.Array{}
	eight := array(times(8, 1), 5)
	checkSaid(t, []said{
		{api.PStitch, scalar(9), m, array(lengths(2, 4), 9, 1, 2, 3, 9, 4, 5, 6), api.OK}, {api.PStitch, m, scalar(9), array(lengths(2, 4), 1, 2, 3, 9, 4, 5, 6, 9), api.OK}, {api.PStitch, list(1, 2), list(3, 4), array(lengths(2, 2), 1, 3, 2, 4), api.OK}, {api.PStitch, scalar(9), list(3, 4), array(lengths(2, 2), 9, 3, 9, 4), api.OK}, {api.PStitch, list(3, 4), scalar(9), array(lengths(2, 2), 3, 9, 4, 9), api.OK}, {api.PStitch, m, m, array(lengths(2, 6), 1, 2, 3, 1, 2, 3, 4, 5, 6, 4, 5, 6), api.OK}, {api.PStitch, list(7), list(8), array(lengths(1, 2), 7, 8), api.OK},
		{api.PStitch, numbered(2, 1, 2), list(7, 8), array(lengths(2, 2, 2), -15, -5, 7, 7, 5, 15, 8, 8), api.OK}, {api.PStitch, numbered(2, 1, 2), array(lengths(2, 1), 7, 8), array(lengths(2, 2, 2), -15, -5, 7, 0, 5, 15, 8, 0), api.OK},
		{api.PStitch, list(7), m, none, api.ErrLength}, {api.PStitch, list(), m, none, api.ErrLength}, {api.PStitch, m, list(), none, api.ErrLength}, {api.PStitch, list(), list(7), none, api.ErrLength}, {api.PStitch, array(lengths(3, 2), 1, 2, 3, 4, 5, 6), m, none, api.ErrLength}, {api.PStitch, numbered(64, 64), numbered(4096), none, api.ErrLength},
		// No items: it is tried on zeros; if that is refused, the frame alone is told.
		{api.PStitch, list(), list(), array(lengths(0, 2)), api.OK}, {api.PStitch, scalar(7), list(), array(lengths(0, 2)), api.OK}, {api.PStitch, list(), scalar(7), array(lengths(0, 2)), api.OK}, {api.PStitch, array(lengths(0, 3)), list(), array(lengths(0, 4)), api.OK}, {api.PStitch, array(lengths(0, 3)), array(lengths(0, 2, 2)), array(lengths(0, 3, 3)), api.OK}, {api.PStitch, scalar(7), array(lengths(0, 3)), array(lengths(0, 4)), api.OK}, {api.PStitch, array(lengths(0, 0)), array(lengths(0, 0)), array(lengths(0, 0)), api.OK},
		{api.PStitch, array(lengths(0, 4096)), list(), list(), api.OK}, {api.PStitch, array(lengths(0, 4095)), list(), array(lengths(0, 4096)), api.OK}, {api.PStitch, scalar(7), array(lengths(0, 4096)), list(), api.OK}, {api.PStitch, array(lengths(0, 64, 64)), array(lengths(0, 1)), list(), api.OK}, {api.PStitch, array(times(8, 0)), scalar(7), array(append(lengths(0, 1), times(6, 0)...)), api.OK},
		{api.PStitch, array(lengths(3, 0)), list(7, 8, 9), array(lengths(3, 1), 7, 8, 9), api.OK}, {api.PStitch, array(lengths(2, 0)), array(lengths(2, 0)), array(lengths(2, 0)), api.OK}, {api.PStitch, eight, scalar(7), array(append(lengths(1, 2), times(6, 1)...), 5, 7), api.OK}, {api.PStitch, eight, eight, array(append(lengths(1, 2), times(6, 1)...), 5, 5), api.OK},
		{api.PStitch, numbered(64, 64), scalar(7), none, api.ErrSize}, {api.PStitch, numbered(4096), scalar(7), none, api.ErrSize}, {api.PStitch, numbered(1, 4096), scalar(7), none, api.ErrSize}, {api.PStitch, array(lengths(4096, 0)), array(lengths(4096, 0)), array(lengths(4096, 0)), api.OK}, {api.PStitch, numbered(64, 63), numbered(64), array(lengths(64, 64), woven(numbered(64, 63), numbered(64))...), api.OK},
	})
}

// woven are the atoms of each item of x, and behind them one atom of y.
func woven(x, y api.Array) []int64 {
	var out []int64
	for i, item := range itemsOf(x) {
		out = append(append(out, item.Atoms...), y.Atoms[i])
	}
	return out
}

func TestLaminateEdges(t *testing.T) {
	m, none := table(), api.Array{}
	checkSaid(t, []said{
		{api.PItem, scalar(7), scalar(8), list(7, 8), api.OK}, {api.PItem, scalar(9), m, array(lengths(2, 2, 3), 9, 9, 9, 9, 9, 9, 1, 2, 3, 4, 5, 6), api.OK}, {api.PItem, scalar(9), list(), array(lengths(2, 0)), api.OK}, {api.PItem, list(), scalar(9), array(lengths(2, 0)), api.OK}, {api.PItem, list(1, 2), scalar(9), array(lengths(2, 2), 1, 2, 9, 9), api.OK},
		{api.PItem, list(1, 2, 3), list(7), array(lengths(2, 3), 1, 2, 3, 7, 0, 0), api.OK}, {api.PItem, list(7, 8), m, array(lengths(2, 2, 3), 7, 8, 0, 0, 0, 0, 1, 2, 3, 4, 5, 6), api.OK}, {api.PItem, m, list(7, 8), array(lengths(2, 2, 3), 1, 2, 3, 4, 5, 6, 7, 8, 0, 0, 0, 0), api.OK}, {api.PItem, list(), list(7), array(lengths(2, 1), 0, 7), api.OK}, {api.PItem, list(), list(), array(lengths(2, 0)), api.OK}, {api.PItem, array(lengths(0, 3)), array(lengths(0, 2)), array(lengths(2, 0, 3)), api.OK}, {api.PItem, array(lengths(0, 3)), list(7), array(lengths(2, 1, 3), 0, 0, 0, 7, 0, 0), api.OK},
		{api.PItem, array(times(7, 1), 5), scalar(7), array(append(lengths(2), times(7, 1)...), 5, 7), api.OK}, {api.PItem, zeros(times(8, 1)...), scalar(7), none, api.ErrSize}, {api.PItem, scalar(7), array(times(8, 0)), none, api.ErrSize}, {api.PItem, numbered(2049), scalar(7), none, api.ErrSize}, {api.PItem, scalar(7), numbered(2049), none, api.ErrSize}, {api.PItem, list(7), numbered(2049), none, api.ErrSize}, {api.PItem, array(lengths(0, 4096)), list(), none, api.ErrSize}, {api.PItem, zeros(64, 1), zeros(1, 64), none, api.ErrSize}, {api.PItem, zeros(2048), zeros(2048), zeros(2, 2048), api.OK},
	})
}

func TestLeftRight(t *testing.T) {
	for _, sx := range goodShapes() {
		for _, sy := range [][]int{nil, lengths(0), lengths(5), lengths(3, 2), times(8, 1)} {
			x, y := numbered(sx...), zeros(sy...)
			checkDyad(t, api.PLeft, x, y, x, api.OK)
			checkDyad(t, api.PLeft, y, x, y, api.OK)
			checkDyad(t, api.PRight, x, y, y, api.OK)
			checkDyad(t, api.PRight, y, x, x, api.OK)
		}
	}
}

// TestDyadShapes: all pairs of shapes, by the verbs that take x as an array.
func TestDyadShapes(t *testing.T) {
	for _, sx := range goodShapes() {
		for _, sy := range goodShapes() {
			x, y := numbered(sx...), numbered(sy...)
			for i := range x.Atoms {
				x.Atoms[i] += 100000
			}
			for _, op := range []int{api.PRavel, api.PStitch, api.PItem} {
				want, e := wantedDyad(op, x, y)
				checkDyad(t, op, x, y, want, e)
			}
		}
		if t.Failed() {
			return
		}
	}
}

// TestDyadShapesThrown: pairs of shapes that are thrown.
func TestDyadShapesThrown(t *testing.T) {
	var d dice
	for range 4000 {
		sx, sy := d.shape(8), d.shape(8)
		if d.throw(3) > 0 {
			sx, sy = d.shape(4), d.shape(4)
		}
		if len(sx) > 0 && len(sy) > 0 && d.throw(2) == 0 {
			sy[0] = sx[0]
		}
		x, y := numbered(sx...), numbered(sy...)
		for _, op := range []int{api.PRavel, api.PStitch, api.PItem} {
			want, e := wantedDyad(op, x, y)
			checkDyad(t, op, x, y, want, e)
		}
	}
}

// near are numbers of x about a length of y, and the farthest ones.
func near(length int) []int64 {
	n := int64(length)
	return []int64{0, 1, -1, 2, -2, n, -n, n + 1, -n - 1, 7, api.Max, api.Min}
}

// numbersFor are more of them.
func numbersFor(length int) []int64 {
	n := int64(length)
	return append(near(length), n-1, 1-n, -7, 4096, -4096, 4097, -4097, api.Max-1, api.Min+1, 1<<32, -1<<32)
}

// TestDyadNumbers: one and two numbers of all shapes.
func TestDyadNumbers(t *testing.T) {
	for _, s := range fewShapes() {
		y := numbered(s...)
		for _, op := range numberOps() {
			ahead, behind := append(slices.Clone(s), 1)[0], append(slices.Clone(s), 1, 1)[1]
			var xs []api.Array
			for _, m := range numbersFor(ahead) {
				xs = append(xs, scalar(m), list(m))
			}
			for _, m := range near(ahead) {
				for _, n := range near(behind) {
					xs = append(xs, list(m, n))
				}
			}
			for _, x := range xs {
				want, e := wantedDyad(op, x, y)
				checkDyad(t, op, x, y, want, e)
			}
		}
		if t.Failed() {
			return
		}
	}
}

// TestDyadNumbersThrown: numbers that are thrown, up to some more than y has lengths.
func TestDyadNumbersThrown(t *testing.T) {
	var d dice
	for range 6000 {
		y := numbered(d.shape(8)...)
		for _, op := range numberOps() {
			x := list()
			for range d.throw(len(y.Shape) + 2 + d.throw(2)*d.throw(3)) {
				x = list(append(x.Atoms, d.number(op))...)
			}
			want, e := wantedDyad(op, x, y)
			checkDyad(t, op, x, y, want, e)
		}
	}
}

// number throws a number that a verb takes, most of the time.
func (d *dice) number(op int) int64 {
	if d.throw(30) == 0 {
		far := numbersFor(3)
		return far[d.throw(len(far))]
	}
	if op == api.PShape {
		return int64(d.throw(4))
	}
	return int64(d.throw(9)) - 4
}

// TestGreat: arrays of as many atoms as there may be.
func TestGreat(t *testing.T) {
	for _, s := range [][]int{lengths(4096), lengths(64, 64), lengths(1, 4096), lengths(4096, 1), lengths(16, 16, 16), append(times(7, 2), 32), lengths(0, 4096), lengths(4096, 0)} {
		y := numbered(s...)
		for _, op := range numberOps() {
			for _, x := range []api.Array{scalar(0), scalar(1), scalar(-1), scalar(63), scalar(-2000), list(), list(3, -1), list(-1, 0), list(0, 1, 2), list(1, 2, 3), list(api.Max, api.Min)} {
				want, e := wantedDyad(op, x, y)
				checkDyad(t, op, x, y, want, e)
			}
		}
	}
}

// TestTakeAndDropAgain: what follows: what is taken and what is dropped are together what there was.
func TestTakeAndDropAgain(t *testing.T) {
	for _, s := range fewShapes() {
		if len(s) == 0 {
			continue
		}
		y := numbered(s...)
		for n := range min(s[0], 8) + 1 {
			taken, _ := Dyad(api.PTake, scalar(int64(n)), y)
			dropped, _ := Dyad(api.PDrop, scalar(int64(n)), y)
			checkDyad(t, api.PRavel, taken, dropped, y, api.OK)
			checkDyad(t, api.PRavel, dropped, taken, turnedBy(y, n), api.OK)
		}
	}
}

func turnedBy(y api.Array, n int) api.Array {
	a, _ := Dyad(api.PRev, scalar(int64(n)), y)
	return a
}
