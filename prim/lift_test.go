package prim

import (
	"slices"
	"testing"

	"abacus/api"
)

// checkWanted hold a call against the lifting of the chapters, reckoned over trees.

func checkWantedMonad(t *testing.T, op int, y api.Array) api.Errno {
	t.Helper()
	want, e := wantedMonad(op, y)
	checkMonad(t, op, y, want, e)
	return e
}

func checkWantedDyad(t *testing.T, op int, x, y api.Array) api.Errno {
	t.Helper()
	want, e := wantedDyad(op, x, y)
	checkDyad(t, op, x, y, want, e)
	return e
}

// counting is an array of that shape with the atoms 0, 1, 2, 0 .. or the like, which most rows take.
func counting(n int64, s ...int) api.Array {
	a := zeros(s...)
	for i := range a.Atoms {
		a.Atoms[i] = int64(i) % n
	}
	return a
}

// TestLiftedMonads: every row, by arrays of all shapes.
func TestLiftedMonads(t *testing.T) {
	for _, op := range monadOps() {
		for _, s := range goodShapes() {
			for _, y := range []api.Array{zeros(s...), counting(2, s...), counting(3, s...), numbered(s...)} {
				checkWantedMonad(t, op, y)
			}
		}
		if t.Failed() {
			return
		}
	}
}

// TestLiftedDyads: every row, by arrays of shapes of which one begins the other, and others; scalars on either side.
func TestLiftedDyads(t *testing.T) {
	for _, op := range dyadOps() {
		for _, a := range fewShapes() {
			for _, b := range few() {
				for _, n := range []int64{1, 2, 3} {
					checkWantedDyad(t, op, counting(n, a...), counting(2, b...))
					checkWantedDyad(t, op, counting(2, b...), counting(n, a...))
				}
				checkWantedDyad(t, op, numbered(a...), numbered(b...))
				checkWantedDyad(t, op, numbered(b...), counting(3, a...))
			}
		}
		if t.Failed() {
			return
		}
	}
}

// TestLiftedThrown: every row, by arrays of thrown shapes and numbers, errors among them; each row is OK often enough, and joins.
func TestLiftedThrown(t *testing.T) {
	d := dice(9)
	fine := map[int]int{}
	for range 400 {
		for _, op := range allOps() {
			if slices.Contains(monadOps(), op) {
				if checkWantedMonad(t, op, d.array(d.shape(4))) == api.OK {
					fine[op]++
				}
			}
			if slices.Contains(dyadOps(), op) {
				s := d.shape(3)
				x, y := d.array(s), d.array(d.longer(s, 4))
				if d.throw(2) == 0 {
					x, y = y, x
				}
				if checkWantedDyad(t, op, x, y) == api.OK {
					fine[op]++
				}
			}
		}
		if t.Failed() {
			return
		}
	}
	for _, op := range allOps() {
		if fine[op] < 60 {
			t.Errorf("the test itself: %d was OK %d times", op, fine[op])
		}
	}
}

// TestScalars: of scalars each row does what its package does to them, once.
func TestScalars(t *testing.T) {
	for _, n := range []int64{0, 1, 2, 3, -1, -2, 7, api.Max, api.Min} {
		for _, op := range monadOps() {
			checkWantedMonad(t, op, scalar(n))
		}
		for _, op := range dyadOps() {
			for _, m := range []int64{0, 1, 2, 5, -1, api.Max, api.Min} {
				checkWantedDyad(t, op, scalar(n), scalar(m))
			}
		}
	}
	checkDyad(t, api.PFrom, scalar(-1), table(), list(4, 5, 6), api.OK)
	checkDyad(t, api.PFrom, scalar(0), scalar(7), scalar(7), api.OK)
	checkDyad(t, api.PFrom, list(0, -1), scalar(7), list(7, 7), api.OK)
	checkDyad(t, api.PAnti, scalar(10), list(345, 6), list(5, 6), api.OK)
	checkDyad(t, api.PTally, scalar(2), scalar(7), list(7, 7), api.OK)
	checkMonad(t, api.PIota, scalar(3), list(0, 1, 2), api.OK)
	checkMonad(t, api.PWhere, scalar(3), list(0, 0, 0), api.OK)
	checkMonad(t, api.PBase, scalar(9), scalar(9), api.OK)
}

// TestTriedMonads: frames without places; what the trial on zeros gives is told, or, where it is refused, the frame alone.
func TestTriedMonads(t *testing.T) {
	none := api.Array{}
	for _, c := range []struct {
		op   int
		s    []int
		want []int
	}{
		{api.PIota, lengths(0, 3), lengths(0, 0, 0, 0)},
		{api.PIota, lengths(0, 0), lengths(0)},
		{api.PIota, lengths(2, 0, 1), lengths(2, 0, 0)},
		{api.PIota, lengths(0, 7), times(8, 0)},
		{api.PIota, lengths(0, 9), lengths(0)},
		{api.PIota, lengths(0, 4096), lengths(0)},
		{api.PIota, lengths(5, 0, 9), lengths(5, 0)},
		{api.PWhere, lengths(0, 5), lengths(0, 0)},
		{api.PWhere, lengths(3, 0, 5), lengths(3, 0, 0)},
		{api.PWhere, times(8, 0), times(8, 0)},
		{api.PBase, lengths(0, 5), lengths(0)},
		{api.PBase, lengths(3, 0, 5), lengths(3, 0)},
		{api.PBase, times(8, 0), times(7, 0)},
		{api.PFact, lengths(0, 3), lengths(0, 3)},
		{api.PMatch, lengths(3, 0), lengths(3, 0)},
	} {
		checkMonad(t, c.op, array(c.s), array(c.want), api.OK)
	}
	// The trial is OK, but there is no array of rank 9.
	checkMonad(t, api.PIota, array(lengths(0, 8)), none, api.ErrSize)
	checkMonad(t, api.PIota, array(lengths(3, 0, 7)), none, api.ErrSize)
	checkMonad(t, api.PIota, array(append(times(7, 0), 2)), none, api.ErrSize)
}

// TestTriedDyads: likewise; also where one side has cells, and one counts as a whole.
func TestTriedDyads(t *testing.T) {
	for _, c := range []struct {
		op   int
		x, y api.Array
		want []int
	}{
		{api.PFrom, list(), table(), lengths(0, 3)},
		{api.PFrom, array(lengths(2, 0)), table(), lengths(2, 0, 3)},
		{api.PFrom, list(), scalar(7), lengths(0)},
		{api.PFrom, list(), array(lengths(0, 3)), lengths(0)},
		{api.PFrom, array(lengths(0, 2)), list(), lengths(0, 2)},
		{api.PFrom, list(), array(lengths(3, 0)), lengths(0, 0)},
		{api.PTally, array(lengths(0, 2)), table(), lengths(0, 0, 3)},
		{api.PTally, array(lengths(0, 3)), table(), lengths(0)},
		{api.PTally, array(lengths(0, 3)), scalar(7), lengths(0, 0)},
		{api.PShape, array(lengths(0, 2)), table(), lengths(0, 0, 0, 3)},
		{api.PShape, array(lengths(0, 0)), table(), lengths(0, 3)},
		{api.PShape, array(lengths(0, 0)), array(lengths(0, 3)), lengths(0)},
		{api.PShape, array(lengths(0, 9)), scalar(7), lengths(0)},
		{api.PTake, array(lengths(0, 1)), table(), lengths(0, 0, 3)},
		{api.PTake, array(lengths(0, 3)), table(), lengths(0)},
		{api.PTake, array(lengths(0, 3)), scalar(7), lengths(0, 0, 0, 0)},
		{api.PDrop, array(lengths(0, 1)), table(), lengths(0, 2, 3)},
		{api.PDrop, array(lengths(0, 3)), table(), lengths(0)},
		{api.PRev, array(lengths(0, 2)), table(), lengths(0, 2, 3)},
		{api.PRev, array(lengths(0, 3)), table(), lengths(0)},
		{api.PRev, array(lengths(0, 2)), scalar(7), lengths(0)},
		{api.PTran, array(lengths(0, 1)), table(), lengths(0, 3, 2)},
		{api.PTran, array(lengths(0, 2)), table(), lengths(0)},
		{api.PTran, array(lengths(0, 1)), scalar(7), lengths(0)},
		{api.PBase, array(lengths(0, 3)), list(1, 2, 3), lengths(0)},
		{api.PBase, array(lengths(0, 3)), list(1, 2), lengths(0)},
		{api.PBase, list(1, 2), array(lengths(2, 0, 2)), lengths(2, 0)},
		{api.PBase, table(), array(lengths(2, 0, 3)), lengths(2, 0)},
		{api.PAnti, list(10, 10), list(), lengths(0, 2)},
		{api.PAnti, array(lengths(0, 2)), scalar(5), lengths(0, 2)},
		{api.PAnti, array(lengths(0, 2)), array(lengths(0, 3)), lengths(0, 3, 2)},
		{api.PAnti, table(), array(lengths(2, 0)), lengths(2, 0, 3)},
		{api.PAnti, list(-1), list(), lengths(0, 1)},
		{api.PDiv, list(), scalar(0), lengths(0)},
		{api.PDiv, array(lengths(2, 0)), list(0, 0), lengths(2, 0)},
		{api.PPow, scalar(0), array(lengths(0, 3)), lengths(0, 3)},
		{api.PNor, list(), array(lengths(0, 3)), lengths(0, 3)},
	} {
		checkDyad(t, c.op, c.x, c.y, array(c.want), api.OK)
	}
}

// TestTriedTooGreat: what was tried is OK, but no array has the frame and its shape.
func TestTriedTooGreat(t *testing.T) {
	none := api.Array{}
	checkDyad(t, api.PFrom, array(lengths(0, 64)), zeros(1, 65), none, api.ErrSize)
	checkDyad(t, api.PFrom, array(times(8, 0)), table(), none, api.ErrSize)
	checkDyad(t, api.PAnti, list(10), array(times(8, 0)), none, api.ErrSize)
	checkDyad(t, api.PAnti, zeros(65), array(lengths(0, 64)), none, api.ErrSize)
	checkDyad(t, api.PRev, array(append(lengths(0, 64), 1)), zeros(65), none, api.ErrSize)
	checkDyad(t, api.PDrop, array(append(times(7, 0), 1)), table(), none, api.ErrSize)
	checkDyad(t, api.PAnti, scalar(10), array(times(8, 0)), array(times(8, 0)), api.OK)
	checkDyad(t, api.PFrom, array(times(8, 0)), list(1, 2), array(times(8, 0)), api.OK)
}

// TestAgreement: frames of which one begins the other, and frames that do not agree, which no places and no error of a cell go ahead of.
func TestAgreement(t *testing.T) {
	none := api.Array{}
	for _, c := range []struct {
		op   int
		x, y api.Array
	}{
		{api.PAdd, list(), list(1)}, {api.PAdd, list(1, 2), array(lengths(3, 0))}, {api.PDiv, list(1, 2), list(0, 0, 0)},
		{api.PBase, table(), threeTwo()}, {api.PBase, array(lengths(0, 3)), table()}, {api.PBase, array(lengths(2, 1), api.Max, api.Max), array(lengths(3, 2), 1, 1, 1, 1, 1, 1)},
		{api.PAnti, table(), list(1, 2, 3)}, {api.PAnti, array(lengths(0, 2)), list(1)}, {api.PAnti, array(lengths(2, 1), -1, -1), list(api.Min)},
		{api.PAnti, array(lengths(2, 3, 1), 1, 2, 3, 4, 5, 6), array(lengths(2, 2), 1, 2, 3, 4)},
	} {
		checkDyad(t, c.op, c.x, c.y, none, api.ErrLength)
	}
	checkDyad(t, api.PBase, array(lengths(2, 1), 10, 2), array(lengths(2, 2, 2), 1, 2, 3, 4, 1, 0, 1, 1), none, api.ErrLength)
	checkDyad(t, api.PBase, array(lengths(2, 2), 10, 10, 2, 2), array(lengths(2, 2, 2), 1, 2, 3, 4, 1, 0, 1, 1), array(lengths(2, 2), 12, 34, 2, 3), api.OK)
	checkDyad(t, api.PBase, array(lengths(2, 2, 2), 1, 2, 3, 4, 10, 10, 2, 2), array(lengths(2, 2), 1, 2, 3, 4), array(lengths(2, 2), 4, 6, 34, 10), api.OK)
	checkDyad(t, api.PAnti, array(lengths(2, 2), 10, 10, 2, 2), array(lengths(2, 3), 12, 34, 56, 1, 2, 3), array(lengths(2, 3, 2), 1, 2, 3, 4, 5, 6, 0, 1, 1, 0, 1, 1), api.OK)
}

// TestJoined: cells whose answers have unlike shapes.
func TestJoined(t *testing.T) {
	checkMonad(t, api.PIota, array(lengths(2, 2), 1, 2, 2, 1), array(lengths(2, 2, 2), 0, 1, 0, 0, 0, 0, 1, 0), api.OK)
	checkMonad(t, api.PIota, array(lengths(2, 1), 0, -2), array(lengths(2, 2), 0, 0, 1, 0), api.OK)
	checkMonad(t, api.PWhere, array(lengths(3, 2), 0, 0, 0, 3, 1, 1), array(lengths(3, 3), 0, 0, 0, 1, 1, 1, 0, 1, 0), api.OK)
	checkMonad(t, api.PWhere, array(lengths(2, 0)), array(lengths(2, 0)), api.OK)
	checkMonad(t, api.PBase, array(lengths(2, 0)), list(0, 0), api.OK)
	checkMonad(t, api.PIota, array(lengths(2, 0)), list(0, 0), api.OK)
	checkDyad(t, api.PShape, array(lengths(2, 2), 1, 2, 2, 1), list(7, 8), array(lengths(2, 2, 2), 7, 8, 0, 0, 7, 0, 8, 0), api.OK)
	checkDyad(t, api.PTake, array(lengths(2, 2), 1, 2, -2, 1), table(), array(lengths(2, 2, 2), 1, 2, 0, 0, 1, 0, 4, 0), api.OK)
	checkDyad(t, api.PDrop, array(lengths(3, 1), 0, 1, 2), table(), array(lengths(3, 2, 3), 1, 2, 3, 4, 5, 6, 4, 5, 6, 0, 0, 0, 0, 0, 0, 0, 0, 0), api.OK)
	checkDyad(t, api.PTally, array(lengths(2, 2), 0, 0, 1, 0), array(lengths(2, 0)), array(lengths(2, 1, 0)), api.OK)
	checkDyad(t, api.PFrom, array(lengths(2, 2), 0, 1, 1, 0), array(lengths(2, 0)), array(lengths(2, 2, 0)), api.OK)
	checkDyad(t, api.PShape, array(lengths(2, 0)), table(), array(lengths(2, 3), 1, 2, 3, 1, 2, 3), api.OK)
}

// TestWhicheverIsFirst: a joining that fails goes ahead of a later cell's error, and a cell's error ahead of a joining that would fail behind it.
func TestWhicheverIsFirst(t *testing.T) {
	row := zeros(1, 4096)
	for _, c := range []struct {
		op   int
		x, y api.Array
		e    api.Errno
	}{
		{api.PFrom, list(0, 9), row, api.ErrSize},
		{api.PFrom, list(9, 0), row, api.ErrIndex},
		{api.PFrom, list(0, 0), row, api.ErrSize},
		{api.PShape, array(lengths(2, 1), 4096, -1), scalar(7), api.ErrSize},
		{api.PShape, array(lengths(2, 1), -1, 4096), scalar(7), api.ErrDomain},
		{api.PShape, array(lengths(3, 1), 1, 2000, -1), scalar(7), api.ErrSize},
		{api.PShape, array(lengths(3, 1), 1, -1, 2000), scalar(7), api.ErrDomain},
		{api.PShape, array(lengths(2, 1), 4097, -1), scalar(7), api.ErrSize},
		{api.PTally, array(lengths(2, 1), 4096, -1), list(7), api.ErrSize},
		{api.PTally, array(lengths(2, 1), -1, 4096), list(7), api.ErrDomain},
		// 65 wide and 64 high only together: it is the common shape that may not be.
		{api.PShape, array(lengths(3, 2), 1, 65, 64, 1, -1, 0), scalar(7), api.ErrSize},
		{api.PShape, array(lengths(3, 2), 1, 65, -1, 0, 64, 1), scalar(7), api.ErrDomain},
		{api.PTran, array(lengths(2, 1), 1, 2), zeros(32, 64), api.ErrIndex},
		{api.PTran, array(lengths(3, 1), 1, 0, 2), zeros(32, 64), api.ErrSize},
		{api.PTran, array(lengths(3, 1), 1, 2, 0), zeros(32, 64), api.ErrSize},
		{api.PTran, array(lengths(2, 1), 0, 2), zeros(32, 64), api.ErrIndex},
		{api.PAnti, array(lengths(2, 1), 2, -1), list(5, api.Min), api.ErrOver},
		{api.PBase, array(lengths(2, 2), 2, 2, 1<<62, 1<<62), list(2, 1), api.ErrOver},
	} {
		checkDyad(t, c.op, c.x, c.y, api.Array{}, c.e)
	}
	checkMonad(t, api.PWhere, array(lengths(2, 1), 4096, -1), api.Array{}, api.ErrSize)
	checkMonad(t, api.PWhere, array(lengths(2, 1), -1, 4096), api.Array{}, api.ErrDomain)
	checkMonad(t, api.PWhere, array(lengths(2, 1), 2048, 2048), array(lengths(2, 2048), make([]int64, 4096)...), api.OK)
	checkMonad(t, api.PWhere, array(lengths(2, 1), 2048, 2049), api.Array{}, api.ErrSize)
	checkMonad(t, api.PIota, array(lengths(2, 1), 2049, 1), api.Array{}, api.ErrSize)
	checkMonad(t, api.PFact, list(-1, 21), api.Array{}, api.ErrDomain)
	checkMonad(t, api.PFact, list(21, -1), api.Array{}, api.ErrOver)
}

// TestRank8: arrays of the highest rank, whose answers may have one more.
func TestRank8(t *testing.T) {
	none := api.Array{}
	one, two := array(times(8, 1), 3), array(append(times(7, 1), 2), 2, 1)
	checkMonad(t, api.PIota, one, array(append(times(7, 1), 3), 0, 1, 2), api.OK)
	checkMonad(t, api.PIota, two, none, api.ErrSize)
	checkMonad(t, api.PWhere, two, array(append(times(7, 1), 3), 0, 0, 1), api.OK)
	checkMonad(t, api.PBase, two, array(times(7, 1), 5), api.OK)
	checkMonad(t, api.PItem, one, none, api.ErrSize)
	checkMonad(t, api.PAnti, one, none, api.ErrSize)
	checkMonad(t, api.PSub, two, array(two.Shape, -2, -1), api.OK)
	checkDyad(t, api.PAdd, two, scalar(5), array(two.Shape, 7, 6), api.OK)
	checkDyad(t, api.PAdd, array(times(7, 1), 5), two, array(two.Shape, 7, 6), api.OK)
	checkDyad(t, api.PFrom, two, list(7, 8, 9), array(two.Shape, 9, 8), api.OK)
	checkDyad(t, api.PFrom, two, threeTwo(), none, api.ErrSize)
	checkDyad(t, api.PFrom, scalar(0), two, array(append(times(6, 1), 2), 2, 1), api.OK)
	checkDyad(t, api.PFrom, list(0, 0), two, array(append(lengths(2), append(times(6, 1), 2)...), 2, 1, 2, 1), api.OK)
	checkDyad(t, api.PFrom, array(lengths(1, 2), 0, 0), two, none, api.ErrSize)
	checkDyad(t, api.PAnti, scalar(2), two, array(two.Shape, 0, 1), api.OK)
	checkDyad(t, api.PAnti, list(2), two, none, api.ErrSize)
	checkDyad(t, api.PAnti, two, scalar(1), array(two.Shape, 1, 0), api.OK)
	checkDyad(t, api.PBase, two, two, array(times(7, 1), 3), api.OK)
	checkDyad(t, api.PTake, two, threeTwo(), none, api.ErrSize)
	checkDyad(t, api.PTake, one, list(7, 8), array(append(times(7, 1), 3), 7, 8, 0), api.OK)
	checkDyad(t, api.PRev, list(1, 1), two, two, api.OK)
}

// TestWide: as many cells as there can be.
func TestWide(t *testing.T) {
	all := make([]int64, 4096)
	back := make([]int64, 4096)
	for i := range all {
		all[i], back[i] = int64(i), int64(4095-i)
	}
	checkDyad(t, api.PFrom, list(back...), list(all...), list(back...), api.OK)
	checkDyad(t, api.PFrom, array(lengths(64, 64), back...), list(all...), array(lengths(64, 64), back...), api.OK)
	checkDyad(t, api.PAnti, scalar(0), list(all...), list(all...), api.OK)
	checkDyad(t, api.PBase, scalar(10), array(lengths(4096, 1), all...), list(all...), api.OK)
	checkDyad(t, api.PAdd, list(all...), list(back...), list(slices.Repeat([]int64{4095}, 4096)...), api.OK)
	checkDyad(t, api.PFrom, list(all...), list(all[:4095]...), api.Array{}, api.ErrIndex)
	checkMonad(t, api.PBase, array(lengths(4096, 1), all...), list(all...), api.OK)
}
