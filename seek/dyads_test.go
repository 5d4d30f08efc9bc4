package seek

import (
	"slices"
	"testing"

	"abacus/api"
)

// said is a call of Dyad and what it is to answer.
type said struct {
	op         int
	x, y, want api.Array
	e          api.Errno
}

func checkSaid(t *testing.T, cases []said) {
	t.Helper()
	for _, c := range cases {
		checkDyad(t, c.op, c.x, c.y, c.want, c.e)
	}
}

func TestDyadExamples(t *testing.T) {
	m, none := table(), api.Array{}
	checkSaid(t, []said{
		{api.PFrom, scalar(-1), m, list(1, 2), api.OK}, {api.PFrom, scalar(3), m, none, api.ErrIndex}, {api.PFrom, list(0), m, none, api.ErrRank}, {api.PFrom, scalar(0), scalar(5), scalar(5), api.OK},
		{api.PIota, list(5, 6, 5), array(lengths(2, 2), 5, 9, 6, 5), array(lengths(2, 2), 0, 3, 1, 0), api.OK},
		{api.PIota, m, list(1, 2), scalar(0), api.OK}, {api.PIota, m, array(lengths(2, 2), 3, 4, 9, 9), list(1, 3), api.OK}, {api.PIota, m, scalar(1), scalar(3), api.OK},
		{api.PIn, list(1, 7), list(1, 2, 3), list(1, 0), api.OK}, {api.PIn, list(1, 2), m, scalar(1), api.OK},
		{api.PUp, list(10, 20, 30), list(3, 1, 2), list(20, 30, 10), api.OK}, {api.PDown, m, list(1, 1, 5), array(lengths(3, 2), 1, 2, 1, 2, 3, 4), api.OK}, {api.PUp, list(1, 2), list(1, 2, 3), none, api.ErrLength},
		{api.PNot, list(1, 2, 3, 2), list(2, 9), list(1, 3), api.OK}, {api.PNot, m, array(lengths(2, 2), 3, 4, 3, 4), array(lengths(2, 2), 1, 2, 1, 2), api.OK},
		{api.PMatch, scalar(5), list(5), scalar(0), api.OK},
	})
}

// TestFromEdges: about the first and the last item, and the farthest numbers.
func TestFromEdges(t *testing.T) {
	m, none := table(), api.Array{}
	eight := array(append(lengths(2), times(7, 1)...), 5, 6)
	checkSaid(t, []said{
		{api.PFrom, scalar(-4), m, none, api.ErrIndex}, {api.PFrom, scalar(-3), m, list(1, 2), api.OK}, {api.PFrom, scalar(-2), m, list(3, 4), api.OK}, {api.PFrom, scalar(0), m, list(1, 2), api.OK}, {api.PFrom, scalar(1), m, list(3, 4), api.OK}, {api.PFrom, scalar(2), m, list(1, 2), api.OK},
		{api.PFrom, scalar(-1), scalar(5), scalar(5), api.OK}, {api.PFrom, scalar(-2), scalar(5), none, api.ErrIndex}, {api.PFrom, scalar(1), scalar(5), none, api.ErrIndex}, {api.PFrom, scalar(1), list(7, 8), scalar(8), api.OK}, {api.PFrom, scalar(-2), list(7, 8), scalar(7), api.OK},
		{api.PFrom, scalar(0), list(), none, api.ErrIndex}, {api.PFrom, scalar(-1), list(), none, api.ErrIndex}, {api.PFrom, scalar(0), array(lengths(0, 3)), none, api.ErrIndex}, {api.PFrom, scalar(2), array(lengths(3, 0)), list(), api.OK}, {api.PFrom, scalar(3), array(lengths(3, 0)), none, api.ErrIndex}, {api.PFrom, scalar(-3), array(lengths(3, 2, 0)), array(lengths(2, 0)), api.OK},
		{api.PFrom, scalar(1), eight, array(times(7, 1), 6), api.OK}, {api.PFrom, scalar(-1), numbered(4096), scalar(15 - 40950), api.OK}, {api.PFrom, scalar(4095), numbered(4096), scalar(15 - 40950), api.OK}, {api.PFrom, scalar(4096), numbered(4096), none, api.ErrIndex}, {api.PFrom, scalar(-4097), numbered(4096), none, api.ErrIndex},
		// A rank above 0 ahead of any index.
		{api.PFrom, list(3), m, none, api.ErrRank}, {api.PFrom, list(), m, none, api.ErrRank}, {api.PFrom, list(), list(), none, api.ErrRank}, {api.PFrom, list(api.Min, 0), m, none, api.ErrRank}, {api.PFrom, array(times(8, 1), 0), scalar(5), none, api.ErrRank}, {api.PFrom, array(times(8, 0)), list(), none, api.ErrRank},
	})
	for _, s := range goodShapes() {
		y := numbered(s...)
		n := int64(len(items(y)))
		for _, i := range []int64{-n - 1, -n, -n + 1, -1, 0, 1, n - 1, n, api.Min, api.Min + 1, api.Max, api.Max - 1, 1 << 32, -1 << 32, 1<<32 - 1, 1<<63 - 4096, -1<<63 + 4096} {
			want, e := wantedDyad(api.PFrom, scalar(i), y)
			checkDyad(t, api.PFrom, scalar(i), y, want, e)
		}
	}
}

// TestPlaceEdges: cells of a rank above, below and equal to the other side's, scalars, no items, and items without atoms.
func TestPlaceEdges(t *testing.T) {
	m := table()
	eight := array(append(lengths(2), times(7, 1)...), 5, 6)
	checkSaid(t, []said{
		{api.PIota, m, m, list(0, 1, 0), api.OK}, {api.PIota, m, array(lengths(1, 2, 2), 3, 4, 1, 2), array(lengths(1, 2), 1, 0), api.OK}, {api.PIota, m, list(3, 4), scalar(1), api.OK}, {api.PIota, m, list(2, 1), scalar(3), api.OK}, {api.PIota, m, list(1, 2, 0), scalar(3), api.OK}, {api.PIota, m, array(lengths(2, 3), 1, 2, 0, 3, 4, 0), list(3, 3), api.OK}, {api.PIota, m, list(1), scalar(3), api.OK}, {api.PIota, m, list(), scalar(3), api.OK},
		{api.PIota, scalar(5), scalar(5), scalar(0), api.OK}, {api.PIota, scalar(5), scalar(6), scalar(1), api.OK}, {api.PIota, scalar(5), list(5, 6, 5), list(0, 1, 0), api.OK}, {api.PIota, scalar(5), list(), list(), api.OK}, {api.PIota, list(5, 5), scalar(5), scalar(0), api.OK}, {api.PIota, list(4, 5, 5), scalar(5), scalar(1), api.OK}, {api.PIota, list(4, 5, 5), scalar(9), scalar(3), api.OK}, {api.PIota, list(api.Max, api.Min), list(api.Min, api.Max, 0), list(1, 0, 2), api.OK},
		{api.PIota, list(), scalar(5), scalar(0), api.OK}, {api.PIota, list(), list(5, 6), list(0, 0), api.OK}, {api.PIota, list(), list(), list(), api.OK}, {api.PIota, array(lengths(0, 2)), m, list(0, 0, 0), api.OK}, {api.PIota, array(lengths(0, 2)), list(1, 2), scalar(0), api.OK}, {api.PIota, m, array(lengths(0, 2)), list(), api.OK}, {api.PIota, m, array(lengths(4, 0, 2)), array(lengths(4, 0)), api.OK}, {api.PIota, m, array(lengths(0, 4, 7)), array(lengths(0, 4)), api.OK},
		{api.PIota, array(lengths(3, 0)), list(), scalar(0), api.OK}, {api.PIota, array(lengths(3, 0)), array(lengths(2, 0)), list(0, 0), api.OK}, {api.PIota, array(lengths(3, 0)), scalar(5), scalar(3), api.OK}, {api.PIota, array(lengths(3, 0)), list(5), scalar(3), api.OK}, {api.PIota, array(lengths(0, 0)), array(lengths(2, 0)), list(0, 0), api.OK}, {api.PIota, array(lengths(3, 0)), array(lengths(4096, 0)), zeros(4096), api.OK}, {api.PIota, array(lengths(2, 0, 3)), array(lengths(3, 0)), scalar(2), api.OK},
		{api.PIota, eight, eight, list(0, 1), api.OK}, {api.PIota, eight, array(times(7, 1), 6), scalar(1), api.OK}, {api.PIota, eight, array(times(6, 1), 6), scalar(2), api.OK}, {api.PIota, eight, scalar(6), scalar(2), api.OK}, {api.PIota, list(5), eight, array(eight.Shape, 0, 1), api.OK}, {api.PIota, scalar(6), eight, array(eight.Shape, 1, 0), api.OK}, {api.PIota, scalar(6), array(times(8, 0)), array(times(8, 0)), api.OK},
		{api.PIn, m, m, list(1, 1, 1), api.OK}, {api.PIn, array(lengths(1, 2, 2), 3, 4, 1, 3), m, array(lengths(1, 2), 1, 0), api.OK}, {api.PIn, list(2, 1), m, scalar(0), api.OK}, {api.PIn, scalar(1), m, scalar(0), api.OK}, {api.PIn, list(1, 2, 0), m, scalar(0), api.OK}, {api.PIn, scalar(5), scalar(5), scalar(1), api.OK}, {api.PIn, scalar(5), list(4, 5), scalar(1), api.OK}, {api.PIn, list(5, 6), scalar(5), list(1, 0), api.OK}, {api.PIn, list(), scalar(5), list(), api.OK},
		{api.PIn, scalar(5), list(), scalar(0), api.OK}, {api.PIn, m, list(), zeros(3, 2), api.OK}, {api.PIn, m, array(lengths(0, 2)), list(0, 0, 0), api.OK}, {api.PIn, list(), array(lengths(3, 0)), scalar(1), api.OK}, {api.PIn, list(), array(lengths(0, 0)), scalar(0), api.OK}, {api.PIn, array(lengths(2, 0)), array(lengths(3, 0)), list(1, 1), api.OK}, {api.PIn, array(lengths(0, 4, 7)), m, array(lengths(0, 4)), api.OK}, {api.PIn, scalar(5), array(lengths(3, 0)), scalar(0), api.OK},
		{api.PIn, array(times(7, 1), 6), eight, scalar(1), api.OK}, {api.PIn, array(times(6, 1), 6), eight, scalar(0), api.OK}, {api.PIn, eight, list(6), array(eight.Shape, 0, 1), api.OK}, {api.PIn, eight, eight, list(1, 1), api.OK},
	})
}

// TestSortEdges: the tallies alone are to fit; what stays of a scalar is a list.
func TestSortEdges(t *testing.T) {
	m, none := table(), api.Array{}
	eight := array(append(lengths(2), times(7, 1)...), 5, 6)
	checkSaid(t, []said{
		{api.PUp, m, list(2, 1, 3), array(lengths(3, 2), 3, 4, 1, 2, 1, 2), api.OK}, {api.PDown, m, list(2, 1, 3), array(lengths(3, 2), 1, 2, 1, 2, 3, 4), api.OK}, {api.PUp, list(7, 8, 9), m, list(7, 9, 8), api.OK}, {api.PDown, list(7, 8, 9), m, list(8, 7, 9), api.OK}, {api.PUp, m, m, array(lengths(3, 2), 1, 2, 1, 2, 3, 4), api.OK},
		{api.PUp, list(1, 2, 3), list(5, 5, 5), list(1, 2, 3), api.OK}, {api.PDown, list(1, 2, 3), list(5, 5, 5), list(1, 2, 3), api.OK}, {api.PDown, list(1, 2, 3, 4), list(5, 6, 5, 6), list(2, 4, 1, 3), api.OK}, {api.PUp, list(1, 2, 3, 4), list(6, 5, 6, 5), list(2, 4, 1, 3), api.OK}, {api.PUp, list(1, 2, 3), list(api.Max, 0, api.Min), list(3, 2, 1), api.OK},
		{api.PUp, scalar(5), scalar(9), list(5), api.OK}, {api.PDown, scalar(5), list(9), list(5), api.OK}, {api.PUp, list(5), scalar(9), list(5), api.OK}, {api.PUp, array(lengths(1, 2), 5, 6), scalar(9), array(lengths(1, 2), 5, 6), api.OK}, {api.PUp, scalar(5), array(lengths(1, 0)), list(5), api.OK}, {api.PUp, scalar(5), array(times(8, 1), 9), list(5), api.OK},
		{api.PUp, list(), list(), list(), api.OK}, {api.PUp, list(), array(lengths(0, 3)), list(), api.OK}, {api.PDown, array(lengths(0, 3)), list(), array(lengths(0, 3)), api.OK}, {api.PUp, array(lengths(0, 4096)), list(), array(lengths(0, 4096)), api.OK}, {api.PUp, array(lengths(3, 0)), list(3, 1, 2), array(lengths(3, 0)), api.OK}, {api.PDown, list(3, 1, 2), array(lengths(3, 0)), list(3, 1, 2), api.OK}, {api.PDown, eight, list(1, 2), array(eight.Shape, 6, 5), api.OK}, {api.PDown, list(1, 2), eight, list(2, 1), api.OK},
		{api.PDown, list(1, 2), list(1, 2, 3), none, api.ErrLength}, {api.PUp, list(1, 2, 3), list(1, 2), none, api.ErrLength}, {api.PUp, scalar(5), list(1, 2), none, api.ErrLength}, {api.PDown, list(1, 2), scalar(5), none, api.ErrLength}, {api.PUp, scalar(5), list(), none, api.ErrLength}, {api.PUp, list(), scalar(5), none, api.ErrLength}, {api.PUp, list(), array(lengths(1, 0)), none, api.ErrLength}, {api.PDown, array(lengths(0, 3)), array(lengths(3, 0)), none, api.ErrLength}, {api.PUp, m, array(lengths(2, 3), 1, 2, 3, 4, 5, 6), none, api.ErrLength},
	})
}

// TestWithoutEdges: items of another shape are never the same.
func TestWithoutEdges(t *testing.T) {
	m := table()
	eight := array(append(lengths(2), times(7, 1)...), 5, 6)
	checkSaid(t, []said{
		{api.PNot, list(3, 1, 3, 2), list(), list(3, 1, 3, 2), api.OK}, {api.PNot, list(3, 1, 3), list(3, 1), list(), api.OK}, {api.PNot, list(3, 1, 3), scalar(3), list(1), api.OK}, {api.PNot, scalar(5), scalar(5), list(), api.OK}, {api.PNot, scalar(5), scalar(6), list(5), api.OK}, {api.PNot, scalar(5), list(6, 5), list(), api.OK}, {api.PNot, scalar(5), list(), list(5), api.OK},
		{api.PNot, m, list(1, 2), m, api.OK}, {api.PNot, m, array(lengths(1, 2), 1, 2), array(lengths(1, 2), 3, 4), api.OK}, {api.PNot, m, m, array(lengths(0, 2)), api.OK}, {api.PNot, m, array(lengths(1, 2, 1), 1, 2), m, api.OK}, {api.PNot, m, array(lengths(3, 3), 1, 2, 0, 3, 4, 0, 0, 0, 0), m, api.OK}, {api.PNot, list(1, 2), m, list(1, 2), api.OK}, {api.PNot, list(1, 2), array(lengths(2, 1), 1, 2), list(1, 2), api.OK}, {api.PNot, array(lengths(2, 1), 1, 2), list(1, 2), array(lengths(2, 1), 1, 2), api.OK},
		{api.PNot, list(), list(1), list(), api.OK}, {api.PNot, array(lengths(0, 3)), m, array(lengths(0, 3)), api.OK}, {api.PNot, array(lengths(3, 0)), array(lengths(1, 0)), array(lengths(0, 0)), api.OK}, {api.PNot, array(lengths(3, 0)), array(lengths(0, 0)), array(lengths(3, 0)), api.OK}, {api.PNot, array(lengths(3, 0)), list(), array(lengths(3, 0)), api.OK}, {api.PNot, eight, eight, array(append(lengths(0), times(7, 1)...)), api.OK}, {api.PNot, eight, array(times(8, 1), 5), array(times(8, 1), 6), api.OK}, {api.PNot, list(api.Max, api.Min), list(api.Min, -1), list(api.Max), api.OK}, {api.PNot, list(1<<32, 7), list(0, 7), list(1 << 32), api.OK},
	})
}

func TestMatchEdges(t *testing.T) {
	yes, no := scalar(1), scalar(0)
	m := table()
	checkSaid(t, []said{
		{api.PMatch, m, table(), yes, api.OK}, {api.PMatch, m, array(lengths(2, 3), m.Atoms...), no, api.OK}, {api.PMatch, m, list(m.Atoms...), no, api.OK}, {api.PMatch, list(1, 2), list(1, 3), no, api.OK}, {api.PMatch, list(1, 2), list(1, 2, 3), no, api.OK}, {api.PMatch, list(5), scalar(5), no, api.OK}, {api.PMatch, scalar(5), scalar(5), yes, api.OK}, {api.PMatch, scalar(1), scalar(1<<32 + 1), no, api.OK}, {api.PMatch, scalar(api.Min), scalar(api.Max), no, api.OK},
		{api.PMatch, list(), list(), yes, api.OK}, {api.PMatch, list(), array(lengths(0, 0)), no, api.OK}, {api.PMatch, array(lengths(0, 3)), array(lengths(3, 0)), no, api.OK}, {api.PMatch, array(lengths(0, 3)), array(lengths(0, 3)), yes, api.OK}, {api.PMatch, array(times(8, 1), 5), array(times(7, 1), 5), no, api.OK}, {api.PMatch, array(times(8, 1), 5), array(times(8, 1), 5), yes, api.OK},
	})
}

// TestDyadShapes: all pairs of shapes.
func TestDyadShapes(t *testing.T) {
	var d dice
	for _, sx := range fewShapes() {
		for _, sy := range fewShapes() {
			for _, xy := range [][2]api.Array{{numbered(sx...), numbered(sy...)}, {zeros(sx...), zeros(sy...)}, {d.array(sx), d.array(sy)}} {
				for _, op := range dyadOps() {
					want, e := wantedDyad(op, xy[0], xy[1])
					checkDyad(t, op, xy[0], xy[1], want, e)
				}
			}
		}
		if t.Failed() {
			return
		}
	}
}

// TestDyadThrown: pairs of arrays that are thrown; in many of them one's lengths are the beginning or the end of the other's.
func TestDyadThrown(t *testing.T) {
	var d dice
	for range 6000 {
		sx, sy := d.shape(8), d.shape(4)
		switch d.throw(4) {
		case 0:
			sy = append(d.shape(2), sx[min(1, len(sx)):]...)
		case 1:
			sx = append(d.shape(1), sy[min(1, len(sy)):]...)
		case 2:
			sy = append(slices.Clone(sx[:min(1, len(sx))]), d.shape(2)...)
		}
		if len(sy) > 8 {
			sy = sy[len(sy)-8:]
		}
		if sizeOf(sx) > 500 || sizeOf(sy) > 500 {
			continue
		}
		x, y := d.array(sx), d.array(sy)
		if d.throw(2) == 0 {
			x, y = y, x
		}
		for _, op := range dyadOps() {
			want, e := wantedDyad(op, x, y)
			checkDyad(t, op, x, y, want, e)
		}
	}
}

// TestDyadGreat: as many items as there may be, on either side or both.
func TestDyadGreat(t *testing.T) {
	falls, back, rises := numbered(4096), zeros(4096), zeros(4096)
	for i := range 4096 {
		rises.Atoms[i] = falls.Atoms[4095-i]
		back.Atoms[i] = int64(4095 - i)
	}
	ones := array(lengths(4096), slices.Repeat([]int64{1}, 4096)...)
	far := array(lengths(4096), slices.Repeat([]int64{4096}, 4096)...)
	checkSaid(t, []said{
		{api.PIota, falls, rises, back, api.OK}, {api.PIota, falls, zeros(4096), far, api.OK}, {api.PIota, falls, array(lengths(64, 64), rises.Atoms...), array(lengths(64, 64), back.Atoms...), api.OK}, {api.PIota, zeros(4096), zeros(4096), zeros(4096), api.OK}, {api.PIota, array(lengths(1, 4096), falls.Atoms...), falls, scalar(0), api.OK}, {api.PIota, array(lengths(1, 4096), falls.Atoms...), rises, scalar(1), api.OK},
		{api.PIn, falls, rises, ones, api.OK}, {api.PIn, falls, zeros(4096), zeros(4096), api.OK}, {api.PNot, falls, rises, list(), api.OK}, {api.PNot, falls, zeros(4096), falls, api.OK}, {api.PMatch, falls, rises, scalar(0), api.OK}, {api.PMatch, falls, numbered(4096), scalar(1), api.OK},
		{api.PUp, back, falls, counted(), api.OK}, {api.PDown, back, falls, back, api.OK}, {api.PUp, falls, zeros(4096), falls, api.OK}, {api.PUp, array(lengths(4096, 1), falls.Atoms...), falls, array(lengths(4096, 1), rises.Atoms...), api.OK}, {api.PDown, array(lengths(4096, 0)), falls, array(lengths(4096, 0)), api.OK},
	})
}

// counted is 0 1 2 .. 4095.
func counted() api.Array {
	a := zeros(4096)
	for i := range a.Atoms {
		a.Atoms[i] = int64(i)
	}
	return a
}

// TestAnswersMayBe: whatever is answered may be handed in again.
func TestAnswersMayBe(t *testing.T) {
	good := func(a api.Array) bool {
		product := 1
		for _, length := range a.Shape {
			product *= max(1, length)
		}
		return len(a.Shape) <= 8 && product <= 4096 && len(a.Atoms) == sizeOf(a.Shape)
	}
	for _, s := range goodShapes() {
		y := numbered(s...)
		for _, op := range monadOps() {
			if a, e := Monad(op, y); e == api.OK && !good(a) {
				t.Errorf("P7.2: Monad(%d, %s): %s", op, brief(y), brief(a))
			}
		}
		for _, r := range goodShapes() {
			x := zeros(r...)
			for _, op := range dyadOps() {
				if a, e := Dyad(op, x, y); e == api.OK && !good(a) {
					t.Errorf("P7.2: Dyad(%d, %s, %s): %s", op, brief(x), brief(y), brief(a))
				}
			}
		}
	}
}
