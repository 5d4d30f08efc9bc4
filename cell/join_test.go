package cell

import (
	"fmt"
	"slices"
	"testing"

	"abacus/api"
)

func begin(t *testing.T, frame ...int) *Joiner {
	t.Helper()
	j, e := Begin(frame)
	if e != api.OK || j == nil {
		t.Fatalf("P4.5: Begin(%v): %v, %v", frame, j, e)
	}
	return j
}

func checkAdd(t *testing.T, j *Joiner, a api.Array, want api.Errno) {
	t.Helper()
	if e := j.Add(a); e != want {
		t.Errorf("P4.6: Add(%s): %v; want %v", brief(a), e, want)
	}
}

func checkDone(t *testing.T, j *Joiner, want api.Array, wantE api.Errno) {
	t.Helper()
	a, e := j.Done()
	checkArray(t, "P4.7: Done", a, e, want, wantE)
}

func checkJoin(t *testing.T, frame []int, cells []api.Array, want api.Array, wantE api.Errno) {
	t.Helper()
	a, e := Join(frame, cells...)
	checkArray(t, fmt.Sprint("P4.8: Join under ", frame, " of ", briefCells(cells)), a, e, want, wantE)
}

func arrays(a ...api.Array) []api.Array { return a }

func TestBegin(t *testing.T) {
	for _, frame := range goodShapes() {
		if slices.Contains(frame, 0) {
			if j, e := Begin(frame); j != nil || e != api.ErrLength {
				t.Errorf("P4.5: Begin(%v): %v, %v; want none, %v", frame, j, e, api.ErrLength)
			}
			continue
		}
		j := begin(t, frame...)
		checkDone(t, j, api.Array{}, api.ErrLength)
	}
}

func TestBeginWrong(t *testing.T) {
	for _, c := range wrongShapes() {
		if j, e := Begin(c.s); j != nil || e != c.e {
			t.Errorf("P4.5: Begin(%v): %v, %v; want none, %v", c.s, j, e, c.e)
		}
		checkJoin(t, c.s, nil, api.Array{}, c.e)
		checkJoin(t, c.s, arrays(array(lengths(2), 1)), api.Array{}, c.e)
	}
}

func TestJoinExamples(t *testing.T) {
	checkJoin(t, lengths(2), arrays(scalar(1), list(3, 4)), array(lengths(2, 2), 1, 0, 3, 4), api.OK)
	checkJoin(t, lengths(2), arrays(list(), scalar(9)), array(lengths(2, 1), 0, 9), api.OK)
	checkJoin(t, nil, arrays(table()), table(), api.OK)
	checkJoin(t, lengths(2), arrays(table()), api.Array{}, api.ErrLength)
	checkJoin(t, lengths(0), nil, api.Array{}, api.ErrLength)
	checkJoin(t, lengths(64), arrays(numbered(65)), api.Array{}, api.ErrSize)
}

// TestJoinEdges: ranks that differ, lengths of 0 beside others, frames of no lengths and of all eight.
func TestJoinEdges(t *testing.T) {
	checkJoin(t, lengths(2), arrays(scalar(9), list()), array(lengths(2, 1), 9, 0), api.OK)
	checkJoin(t, lengths(2), arrays(list(), list()), array(lengths(2, 0)), api.OK)
	checkJoin(t, lengths(2), arrays(list(), array(lengths(0, 3))), zeros(2, 1, 3), api.OK)
	checkJoin(t, lengths(2), arrays(array(lengths(2, 0)), array(lengths(0, 3))), zeros(2, 2, 3), api.OK)
	checkJoin(t, lengths(2), arrays(array(lengths(0, 3)), array(lengths(0, 2))), array(lengths(2, 0, 3)), api.OK)
	checkJoin(t, lengths(2), arrays(table(), list(7, 8)), array(lengths(2, 2, 3), 1, 2, 3, 4, 5, 6, 7, 8, 0, 0, 0, 0), api.OK)
	checkJoin(t, lengths(2), arrays(list(7, 8), table()), array(lengths(2, 2, 3), 7, 8, 0, 0, 0, 0, 1, 2, 3, 4, 5, 6), api.OK)
	checkJoin(t, lengths(2), arrays(array(lengths(2, 1), 7, 8), list(1, 2, 3)), array(lengths(2, 2, 3), 7, 0, 0, 8, 0, 0, 1, 2, 3, 0, 0, 0), api.OK)
	checkJoin(t, lengths(1, 2), arrays(scalar(api.Min), scalar(api.Max)), array(lengths(1, 2), api.Min, api.Max), api.OK)
	checkJoin(t, times(8, 1), arrays(scalar(5)), array(times(8, 1), 5), api.OK)
	checkJoin(t, times(8, 1), arrays(list(5)), api.Array{}, api.ErrSize)
	checkJoin(t, nil, arrays(scalar(7)), scalar(7), api.OK)
	checkJoin(t, nil, arrays(array(lengths(0, 4096))), array(lengths(0, 4096)), api.OK)
}

// TestJoinOrder: Begin's error goes ahead of Add's, which are told array by array, and those ahead of Done's.
func TestJoinOrder(t *testing.T) {
	wrong := array(lengths(3), 1)
	checkJoin(t, nil, nil, api.Array{}, api.ErrLength)
	checkJoin(t, lengths(2), nil, api.Array{}, api.ErrLength)
	checkJoin(t, nil, arrays(scalar(7), scalar(8)), api.Array{}, api.ErrFull)
	checkJoin(t, lengths(1), arrays(scalar(7), wrong), api.Array{}, api.ErrFull)
	checkJoin(t, lengths(1), arrays(scalar(7), zeros(4096)), api.Array{}, api.ErrFull)
	checkJoin(t, lengths(0, 2), arrays(scalar(7)), api.Array{}, api.ErrLength)
	checkJoin(t, lengths(0, 2), arrays(wrong), api.Array{}, api.ErrLength)
	checkJoin(t, lengths(2), arrays(scalar(1), wrong), api.Array{}, api.ErrArg)
	checkJoin(t, lengths(3), arrays(scalar(1), wrong), api.Array{}, api.ErrArg)
	checkJoin(t, lengths(2), arrays(wrong, scalar(1), scalar(2)), api.Array{}, api.ErrArg)
	checkJoin(t, lengths(2, 2), arrays(zeros(1025), wrong), api.Array{}, api.ErrSize)
	checkJoin(t, lengths(2, 2), arrays(wrong, zeros(1025)), api.Array{}, api.ErrArg)
	checkJoin(t, lengths(2), arrays(zeros(64, 1), zeros(1, 65), scalar(1)), api.Array{}, api.ErrSize)
}

// TestJoinCells: cells by any rank, joined under their frame, are the array again; without places it is the empty one of them.
func TestJoinCells(t *testing.T) {
	for _, s := range goodShapes() {
		y := numbered(s...)
		for _, rank := range []int{0, 1, 2, 3, 5, 8, api.Inf, -1, -2, -3, -7, -8, most, least} {
			c, _ := One(y, rank)
			a, e := Join(c.Frame, c.Cells...)
			what := fmt.Sprint("P4.8: the cells of ", brief(y), " by rank ", rank)
			if slices.Contains(c.Frame, 0) {
				checkArray(t, what, a, e, api.Array{}, api.ErrLength)
				a, e = Empty(c.Frame, c.Like, true)
			}
			checkArray(t, what, a, e, y, api.OK)
		}
	}
}

// TestJoin: pairs of all shapes under a frame of two places; where they fit they are joined.
func TestJoin(t *testing.T) {
	for _, frame := range [][]int{lengths(2), lengths(2, 1), lengths(1, 1, 2)} {
		for _, s := range goodShapes() {
			for _, u := range goodShapes() {
				both := arrays(numbered(s...), numbered(u...))
				want, e := api.Array{}, wantedAdd(frame, nil, both[0])
				if e == api.OK {
					e = wantedAdd(frame, both[:1], both[1])
				}
				if e == api.OK {
					want = joined(frame, both)
				}
				checkJoin(t, frame, both, want, e)
			}
		}
	}
}

// wantedAdd tells what an array is answered by a joiner to which those were given.
func wantedAdd(frame []int, given []api.Array, a api.Array) api.Errno {
	switch {
	case len(given) == sizeOf(frame):
		return api.ErrFull
	case slices.ContainsFunc(a.Shape, func(length int) bool { return length < 0 }):
		return api.ErrArg
	case !mayBe(a.Shape) || len(a.Atoms) != sizeOf(a.Shape):
		return api.ErrArg
	case !mayBe(slices.Concat(frame, commonShape(append(slices.Clone(given), a)))):
		return api.ErrSize
	}
	return api.OK
}

// TestAddSize: what may not be is told as the arrays come: by lengths, by ranks, by lengths beside one of 0, by the common shape alone; a lesser array is taken in its place then, as if nothing had come.
func TestAddSize(t *testing.T) {
	for _, c := range []struct {
		frame []int
		given []api.Array
		much  api.Array
		less  api.Array
	}{
		{lengths(2), nil, numbered(2049), numbered(2048)},
		{lengths(2), arrays(numbered(2048)), numbered(2049), numbered(2048)},
		{lengths(2), arrays(numbered(64, 1)), numbered(33), numbered(32)},
		{lengths(2), arrays(numbered(64, 1)), numbered(1, 65), numbered(1, 32)},
		{lengths(2), arrays(numbered(32, 1)), numbered(65, 1, 1), numbered(2, 1, 32)},
		{lengths(2), arrays(array(lengths(2048, 0))), list(1, 2), list(1)},
		{lengths(2), nil, array(lengths(0, 2049)), array(lengths(0, 2048))},
		{lengths(1, 1), nil, numbered(times(7, 1)...), numbered(times(6, 1)...)},
		{times(4, 1), nil, numbered(times(5, 1)...), numbered(times(4, 2)...)},
		{lengths(2, 2), arrays(scalar(1), list(2, 3)), numbered(times(7, 1)...), numbered(times(6, 1)...)},
		{lengths(3), arrays(scalar(1), list(2)), numbered(1366), numbered(1365)},
		{lengths(64), arrays(scalar(1), numbered(64)), numbered(2, 1), numbered(1, 1, 1)},
		{lengths(4096), arrays(scalar(1), list(2), list(), numbered(times(7, 1)...)), list(1, 2), list()},
	} {
		j := begin(t, c.frame...)
		for _, a := range c.given {
			checkAdd(t, j, a, api.OK)
		}
		checkAdd(t, j, c.much, api.ErrSize)
		checkAdd(t, j, c.much, api.ErrSize)
		given := append(slices.Clone(c.given), c.less)
		checkAdd(t, j, c.less, api.OK)
		for len(given) < sizeOf(c.frame) {
			checkAdd(t, j, c.much, api.ErrSize)
			checkAdd(t, j, scalar(5), api.OK)
			given = append(given, scalar(5))
		}
		checkDone(t, j, joined(c.frame, given), api.OK)
	}
}

// TestAddWrong: an array that may not be is refused and changes nothing; a joiner that is full says so first.
func TestAddWrong(t *testing.T) {
	for _, wrong := range append(wrongArrays(), api.Array{}) {
		j := begin(t, 2)
		checkAdd(t, j, wrong, api.ErrArg)
		checkAdd(t, j, scalar(1), api.OK)
		checkAdd(t, j, wrong, api.ErrArg)
		checkDone(t, j, api.Array{}, api.ErrLength)
		checkAdd(t, j, list(3, 4), api.OK)
		checkAdd(t, j, wrong, api.ErrFull)
		checkDone(t, j, array(lengths(2, 2), 1, 0, 3, 4), api.OK)
	}
}

// TestFull: one that is full takes none, however often it is asked, and tells the same each time.
func TestFull(t *testing.T) {
	for _, frame := range [][]int{nil, lengths(1), lengths(2, 3), times(8, 1), lengths(64, 64)} {
		j := begin(t, frame...)
		var given []api.Array
		for i := range sizeOf(frame) {
			checkDone(t, j, api.Array{}, api.ErrLength)
			checkAdd(t, j, scalar(int64(i)-3), api.OK)
			given = append(given, scalar(int64(i)-3))
		}
		want := joined(frame, given)
		for range 3 {
			checkAdd(t, j, scalar(9), api.ErrFull)
			checkAdd(t, j, list(1, 2), api.ErrFull)
			checkAdd(t, j, zeros(4096), api.ErrFull)
			checkDone(t, j, want, api.OK)
		}
	}
}

// dice is a row of numbers that looks like chance and is the same each time.
type dice uint64

func (d *dice) below(n int) int {
	*d = *d*6364136223846793005 + 1442695040888963407
	return int(uint64(*d)>>33) % n
}

// offered are arrays of which some fit and some do not.
func offered() []api.Array {
	out := arrays(api.Array{}, array(lengths(2), 1), array(lengths(-1)), array(times(9, 1), 1))
	for _, s := range [][]int{nil, nil, nil, lengths(0), lengths(1), lengths(2), lengths(3), lengths(2, 2), lengths(1, 3), lengths(3, 1), lengths(0, 2), lengths(2, 0), lengths(2, 1, 2), lengths(1, 0, 3), times(6, 1), times(7, 1), lengths(300), lengths(1, 700), lengths(4096)} {
		out = append(out, numbered(s...))
	}
	return out
}

// TestJoinerByChance: many joiners, each offered one array behind the other and asked in between.
func TestJoinerByChance(t *testing.T) {
	frames := [][]int{nil, lengths(1), lengths(2), lengths(3), lengths(2, 2), lengths(5), lengths(2, 1, 3), times(3, 2), times(8, 1), lengths(12)}
	var d dice = 7
	pool := offered()
	for round := range 400 {
		frame := frames[d.below(len(frames))]
		j := begin(t, frame...)
		var given []api.Array
		for range 3 * sizeOf(frame) {
			a := pool[d.below(len(pool))]
			want := wantedAdd(frame, given, a)
			checkAdd(t, j, a, want)
			if want == api.OK {
				given = append(given, a)
			}
			if len(given) < sizeOf(frame) {
				checkDone(t, j, api.Array{}, api.ErrLength)
				continue
			}
			checkDone(t, j, joined(frame, given), api.OK)
		}
		if t.Failed() {
			t.Fatalf("round %d, frame %v", round, frame)
		}
	}
}
