package digit

import (
	"slices"
	"testing"

	"abacus/api"
)

// told is a call of Monad and what it is to answer.
type told struct {
	op      int
	y, want api.Array
	e       api.Errno
}

func checkTold(t *testing.T, cases []told) {
	t.Helper()
	for _, c := range cases {
		checkMonad(t, c.op, c.y, c.want, c.e)
	}
}

func TestMonadExamples(t *testing.T) {
	none := api.Array{}
	checkTold(t, []told{
		{api.PIota, scalar(4), list(0, 1, 2, 3), api.OK}, {api.PIota, list(2, 3), array(lengths(2, 3), 0, 1, 2, 3, 4, 5), api.OK}, {api.PIota, scalar(-3), list(2, 1, 0), api.OK}, {api.PIota, list(2, -2), array(lengths(2, 2), 1, 0, 3, 2), api.OK}, {api.PIota, list(), scalar(0), api.OK}, {api.PIota, list(0, -5), array(lengths(0, 5)), api.OK},
		{api.PIota, scalar(5000), none, api.ErrSize}, {api.PIota, scalar(api.Min), none, api.ErrSize}, {api.PIota, array(lengths(1, 1), 2), none, api.ErrRank},
		{api.PWhere, list(0, 2, 0, 1), list(1, 1, 3), api.OK}, {api.PWhere, scalar(3), list(0, 0, 0), api.OK}, {api.PWhere, list(), list(), api.OK}, {api.PWhere, list(-1), none, api.ErrDomain}, {api.PWhere, list(4096, 1), none, api.ErrSize},
		{api.PAnti, scalar(5), list(1, 0, 1), api.OK}, {api.PAnti, list(1, 2, 4), array(lengths(3, 3), 0, 0, 1, 0, 1, 0, 1, 0, 0), api.OK}, {api.PAnti, scalar(-3), list(0, 1), api.OK}, {api.PAnti, scalar(0), list(0), api.OK}, {api.PAnti, list(), array(lengths(0, 0)), api.OK},
		{api.PBase, list(1, 0, 1), scalar(5), api.OK}, {api.PBase, scalar(7), scalar(7), api.OK}, {api.PBase, list(), scalar(0), api.OK},
		{api.PTally, table(), none, api.ErrValence}, {api.PRev, table(), none, api.ErrArg},
	})
}

// TestCountEdges: each axis turned by itself, lengths of 0, as many lengths and atoms as there may be and one more, the farthest numbers.
func TestCountEdges(t *testing.T) {
	none := api.Array{}
	checkTold(t, []told{
		{api.PIota, scalar(0), list(), api.OK}, {api.PIota, scalar(1), list(0), api.OK}, {api.PIota, scalar(-1), list(0), api.OK}, {api.PIota, list(4), list(0, 1, 2, 3), api.OK}, {api.PIota, list(-4), list(3, 2, 1, 0), api.OK}, {api.PIota, list(0), list(), api.OK},
		{api.PIota, list(-2, 3), array(lengths(2, 3), 3, 4, 5, 0, 1, 2), api.OK}, {api.PIota, list(2, -3), array(lengths(2, 3), 2, 1, 0, 5, 4, 3), api.OK}, {api.PIota, list(-2, -3), array(lengths(2, 3), 5, 4, 3, 2, 1, 0), api.OK}, {api.PIota, list(2, -2, 2), array(lengths(2, 2, 2), 2, 3, 0, 1, 6, 7, 4, 5), api.OK}, {api.PIota, list(-1, 2, -1), array(lengths(1, 2, 1), 0, 1), api.OK},
		{api.PIota, list(3, 0), array(lengths(3, 0)), api.OK}, {api.PIota, list(-3, 0, 2), array(lengths(3, 0, 2)), api.OK}, {api.PIota, list(0, 4096), array(lengths(0, 4096)), api.OK}, {api.PIota, list(-4096, 0), array(lengths(4096, 0)), api.OK}, {api.PIota, list(0, 4097), none, api.ErrSize}, {api.PIota, list(0, -4097), none, api.ErrSize}, {api.PIota, list(64, 0, 65), none, api.ErrSize},
		{api.PIota, scalar(4096), rises(4096), api.OK}, {api.PIota, scalar(4097), none, api.ErrSize}, {api.PIota, scalar(-4097), none, api.ErrSize}, {api.PIota, list(64, 64), rises(64, 64), api.OK}, {api.PIota, list(64, 65), none, api.ErrSize}, {api.PIota, list(-64, 65), none, api.ErrSize}, {api.PIota, list(1, 1, 4096), rises(1, 1, 4096), api.OK},
		{api.PIota, list(slices.Repeat([]int64{1}, 8)...), array(times(8, 1), 0), api.OK}, {api.PIota, repeats(8, -1), array(times(8, 1), 0), api.OK}, {api.PIota, repeats(8, 0), array(times(8, 0)), api.OK}, {api.PIota, repeats(8, 2), rises(times(8, 2)...), api.OK}, {api.PIota, repeats(9, 1), none, api.ErrSize}, {api.PIota, repeats(9, 0), none, api.ErrSize}, {api.PIota, repeats(9, -1), none, api.ErrSize}, {api.PIota, repeats(4096, 1), none, api.ErrSize}, {api.PIota, repeats(8, 3), none, api.ErrSize},
		{api.PIota, scalar(api.Max), none, api.ErrSize}, {api.PIota, scalar(api.Min + 1), none, api.ErrSize}, {api.PIota, list(api.Min), none, api.ErrSize}, {api.PIota, list(0, api.Min), none, api.ErrSize}, {api.PIota, list(api.Min, 0), none, api.ErrSize}, {api.PIota, list(api.Max, api.Max), none, api.ErrSize}, {api.PIota, list(0, api.Max), none, api.ErrSize}, {api.PIota, list(1, api.Min, 1), none, api.ErrSize},
		// Their products are 0 or 1 by 64 bits, or by 32.
		{api.PIota, list(1<<62, 4), none, api.ErrSize}, {api.PIota, list(1<<32, 1<<32), none, api.ErrSize}, {api.PIota, list(7, 7905747460161236407), none, api.ErrSize}, {api.PIota, scalar(1<<32 + 3), none, api.ErrSize}, {api.PIota, scalar(-1<<32 + 3), none, api.ErrSize},
	})
	down := rises(4096)
	slices.Reverse(down.Atoms)
	checkMonad(t, api.PIota, scalar(-4096), down, api.OK)
	checkMonad(t, api.PIota, list(-64, -64), array(lengths(64, 64), down.Atoms...), api.OK)
	checkMonad(t, api.PIota, repeats(8, -2), array(times(8, 2), down.Atoms[4096-256:]...), api.OK)
}

// TestWhereEdges: a number below 0 ahead of one too many wherever both stand; sums that are too much at the first, a middle and the last number, and that would wrap round.
func TestWhereEdges(t *testing.T) {
	none := api.Array{}
	checkTold(t, []told{
		{api.PWhere, scalar(0), list(), api.OK}, {api.PWhere, scalar(1), list(0), api.OK}, {api.PWhere, list(0), list(), api.OK}, {api.PWhere, list(0, 0, 0), list(), api.OK}, {api.PWhere, list(1, 1, 1), list(0, 1, 2), api.OK}, {api.PWhere, list(3, 0, 1), list(0, 0, 0, 2), api.OK},
		{api.PWhere, scalar(-1), none, api.ErrDomain}, {api.PWhere, scalar(api.Min), none, api.ErrDomain}, {api.PWhere, list(1, -1), none, api.ErrDomain}, {api.PWhere, list(-1, 1), none, api.ErrDomain}, {api.PWhere, list(1, api.Min, 1), none, api.ErrDomain}, {api.PWhere, list(4097, -1), none, api.ErrDomain}, {api.PWhere, list(-1, 4097), none, api.ErrDomain}, {api.PWhere, list(api.Max, api.Max, -2), none, api.ErrDomain}, {api.PWhere, list(4097, 0, api.Min), none, api.ErrDomain},
		{api.PWhere, scalar(4096), zeros(4096), api.OK}, {api.PWhere, list(0, 4096, 0), repeats(4096, 1), api.OK}, {api.PWhere, repeats(4096, 1), rises(4096), api.OK}, {api.PWhere, zeros(4096), list(), api.OK},
		{api.PWhere, scalar(4097), none, api.ErrSize}, {api.PWhere, list(4097), none, api.ErrSize}, {api.PWhere, list(4097, 0, 0), none, api.ErrSize}, {api.PWhere, list(0, 4097, 0), none, api.ErrSize}, {api.PWhere, list(1, 4096), none, api.ErrSize}, {api.PWhere, list(2048, 2048, 1), none, api.ErrSize}, {api.PWhere, list(2048, 2049, 0), none, api.ErrSize}, {api.PWhere, repeats(4096, 2), none, api.ErrSize},
		{api.PWhere, scalar(api.Max), none, api.ErrSize}, {api.PWhere, list(api.Max, api.Max, 2), none, api.ErrSize}, {api.PWhere, list(1, api.Max), none, api.ErrSize}, {api.PWhere, list(0, 1<<62, 1<<62, 1<<62, 1<<62), none, api.ErrSize}, {api.PWhere, repeats(4096, 1<<52), none, api.ErrSize}, {api.PWhere, scalar(1 << 32), none, api.ErrSize}, {api.PWhere, list(1<<31, 1<<31), none, api.ErrSize},
	})
	last := zeros(4096)
	last.Atoms[4095] = 4096
	checkMonad(t, api.PWhere, last, repeats(4096, 4095), api.OK)
	last.Atoms[4095] = 4097
	checkMonad(t, api.PWhere, last, none, api.ErrSize)
	ones := repeats(4096, 1)
	ones.Atoms[4095] = 2
	checkMonad(t, api.PWhere, ones, none, api.ErrSize)
	ones.Atoms[0] = -1
	checkMonad(t, api.PWhere, ones, none, api.ErrDomain)
}

// TestBinaryEdges: the widest numbers, numbers below 0, arrays without atoms, ranks and sizes at the limit.
func TestBinaryEdges(t *testing.T) {
	none := api.Array{}
	ones, high := slices.Repeat([]int64{1}, 63), append([]int64{1}, make([]int64, 63)...)
	checkTold(t, []told{
		{api.PAnti, scalar(1), list(1), api.OK}, {api.PAnti, scalar(-1), list(1), api.OK}, {api.PAnti, scalar(2), list(1, 0), api.OK}, {api.PAnti, scalar(-2), list(1, 0), api.OK}, {api.PAnti, scalar(-5), list(0, 1, 1), api.OK}, {api.PAnti, scalar(-4), list(1, 0, 0), api.OK}, {api.PAnti, list(0), array(lengths(1, 1), 0), api.OK}, {api.PAnti, list(0, 1, -1), array(lengths(3, 1), 0, 1, 1), api.OK}, {api.PAnti, list(-1, 5), array(lengths(2, 3), 1, 1, 1, 1, 0, 1), api.OK}, {api.PAnti, list(4, -3), array(lengths(2, 3), 1, 0, 0, 1, 0, 1), api.OK},
		{api.PAnti, scalar(api.Max), list(ones...), api.OK}, {api.PAnti, scalar(api.Min), list(high...), api.OK}, {api.PAnti, scalar(api.Min + 1), list(append(make([]int64, 62), 1)...), api.OK}, {api.PAnti, scalar(1 << 32), list(append([]int64{1}, make([]int64, 32)...)...), api.OK}, {api.PAnti, list(api.Max, api.Min), array(lengths(2, 64), slices.Concat([]int64{0}, ones, high)...), api.OK}, {api.PAnti, list(0, api.Min, -1), array(lengths(3, 64), slices.Concat(make([]int64, 64), high, []int64{1}, ones)...), api.OK},
		{api.PAnti, table(), array(lengths(2, 3, 3), 0, 0, 1, 0, 1, 0, 0, 1, 1, 1, 0, 0, 1, 0, 1, 1, 1, 0), api.OK}, {api.PAnti, array(lengths(1, 1), -6), array(lengths(1, 1, 3), 0, 1, 0), api.OK},
		{api.PAnti, array(lengths(0, 3)), array(lengths(0, 3, 0)), api.OK}, {api.PAnti, array(lengths(3, 0)), array(lengths(3, 0, 0)), api.OK}, {api.PAnti, array(lengths(0, 4096)), array(lengths(0, 4096, 0)), api.OK}, {api.PAnti, array(times(7, 0)), array(times(8, 0)), api.OK}, {api.PAnti, array(times(8, 0)), none, api.ErrSize}, {api.PAnti, array(append(times(7, 0), 4096)), none, api.ErrSize},
		{api.PAnti, array(times(7, 1), 2), array(append(times(7, 1), 2), 1, 0), api.OK}, {api.PAnti, array(times(8, 1), 0), none, api.ErrSize}, {api.PAnti, array(times(8, 1), api.Min), none, api.ErrSize}, {api.PAnti, zeros(times(8, 2)...), none, api.ErrSize},
		{api.PAnti, zeros(4096), zeros(4096, 1), api.OK}, {api.PAnti, repeats(4096, -1), array(lengths(4096, 1), repeats(4096, 1).Atoms...), api.OK}, {api.PAnti, repeats(4096, 2), none, api.ErrSize}, {api.PAnti, repeats(2048, 3), array(lengths(2048, 2), repeats(4096, 1).Atoms...), api.OK}, {api.PAnti, repeats(2049, 2), none, api.ErrSize}, {api.PAnti, repeats(64, api.Min), array(lengths(64, 64), slices.Repeat(high, 64)...), api.OK}, {api.PAnti, repeats(65, api.Min), none, api.ErrSize}, {api.PAnti, repeats(65, api.Max), array(lengths(65, 63), slices.Repeat(ones, 65)...), api.OK}, {api.PAnti, repeats(66, api.Max), none, api.ErrSize},
	})
	// One wide number at the end makes all of them wide.
	wide := zeros(2049)
	wide.Atoms[2048] = -2
	checkMonad(t, api.PAnti, wide, none, api.ErrSize)
}

// TestBaseOfTwoEdges: digits that are none, no digits, and numbers that leave 64 bits.
func TestBaseOfTwoEdges(t *testing.T) {
	none := api.Array{}
	bits := func(n int, first int64) api.Array {
		a := repeats(n, 1)
		a.Atoms[0] = first
		return a
	}
	checkTold(t, []told{
		{api.PBase, scalar(0), scalar(0), api.OK}, {api.PBase, scalar(api.Max), scalar(api.Max), api.OK}, {api.PBase, scalar(api.Min), scalar(api.Min), api.OK}, {api.PBase, list(api.Min), scalar(api.Min), api.OK}, {api.PBase, list(5, -7), scalar(3), api.OK}, {api.PBase, list(-1, -1), scalar(-3), api.OK}, {api.PBase, list(0, 0, 0), scalar(0), api.OK}, {api.PBase, zeros(4096), scalar(0), api.OK},
		{api.PBase, repeats(63, 1), scalar(api.Max), api.OK}, {api.PBase, repeats(64, 1), none, api.ErrOver}, {api.PBase, bits(64, 0), scalar(api.Max), api.OK}, {api.PBase, bits(64, -1), scalar(-1), api.OK}, {api.PBase, bits(4096, -1), scalar(-1), api.OK}, {api.PBase, repeats(4096, 1), none, api.ErrOver},
		{api.PBase, list(1<<61, 0), scalar(1 << 62), api.OK}, {api.PBase, list(1<<62, 0), none, api.ErrOver}, {api.PBase, list(1<<62, -1), none, api.ErrOver}, {api.PBase, list(-1<<62, 0), scalar(api.Min), api.OK}, {api.PBase, list(-1<<62, -1), none, api.ErrOver}, {api.PBase, list(1<<62-1, 1), scalar(api.Max), api.OK}, {api.PBase, list(1<<62-1, 2), none, api.ErrOver}, {api.PBase, list(0, api.Max, 0), none, api.ErrOver}, {api.PBase, list(0, api.Min, api.Max), none, api.ErrOver}, {api.PBase, list(-1, api.Max), scalar(api.Max - 2), api.OK},
	})
}

// TestMonad: every row of arrays of all shapes.
func TestMonad(t *testing.T) {
	var d dice
	for _, s := range goodShapes() {
		for _, y := range []api.Array{numbered(s...), zeros(s...), rises(s...), d.array(s), d.array(s), d.array(s)} {
			for _, op := range monadOps() {
				want, e := wantedMonad(op, y)
				checkMonad(t, op, y, want, e)
			}
		}
	}
}

// TestMonadThrown: arrays that are thrown, most of them lists.
func TestMonadThrown(t *testing.T) {
	var d dice
	answered := [api.Prims + 1]int{}
	for range 6000 {
		s := d.shape(8)
		if d.throw(4) > 0 {
			s = lengths(d.throw(10))
		}
		y := d.array(s)
		if d.throw(2) == 0 {
			for i := range y.Atoms {
				y.Atoms[i] = int64(d.throw(7) - d.throw(3))
			}
		}
		for _, op := range monadOps() {
			want, e := wantedMonad(op, y)
			if checkMonad(t, op, y, want, e); e == api.OK {
				answered[op]++
			}
		}
	}
	for _, op := range monadOps() {
		if answered[op] < 1000 {
			t.Errorf("the test itself: %d was OK %d times", op, answered[op])
		}
	}
}

// TestBinaryThrown: numbers of every width.
func TestBinaryThrown(t *testing.T) {
	var d dice
	for range 4000 {
		y := scalar(d.number())
		if d.throw(2) == 0 {
			y = list(d.number(), d.number(), d.number())
		}
		want, e := wantedMonad(api.PAnti, y)
		checkMonad(t, api.PAnti, y, want, e)
	}
}
