package cell

import (
	"fmt"
	"slices"
	"testing"

	"abacus/api"
)

// ranks are all that tell arrays apart, and some far beyond.
func ranks() []int {
	out := []int{api.Inf, api.Inf - 1, 63, 65, 1 << 32, -1 << 32, most, most - 1, least, least + 1, least + 8}
	for r := -10; r <= 10; r++ {
		out = append(out, r)
	}
	return out
}

func alikeCells(a, b []api.Array) bool { return slices.EqualFunc(a, b, alike) }

func briefCells(cells []api.Array) string {
	out := fmt.Sprint(len(cells), " cells")
	for _, c := range cells[:min(len(cells), 6)] {
		out += "; " + brief(c)
	}
	return out
}

func checkOne(t *testing.T, y api.Array, rank int, want api.Cells, e api.Errno) {
	t.Helper()
	got, gotE := One(y, rank)
	if gotE != e || !slices.Equal(got.Frame, want.Frame) || !alikeCells(got.Cells, want.Cells) || !alike(got.Like, want.Like) {
		t.Errorf("P4.1: One(%s, %d): frame %v, %s, like %s, %v; want frame %v, %s, like %s, %v", brief(y), rank, got.Frame, briefCells(got.Cells), brief(got.Like), gotE, want.Frame, briefCells(want.Cells), brief(want.Like), e)
	}
}

func TestOneExamples(t *testing.T) {
	rows := api.Cells{Frame: lengths(2), Cells: []api.Array{list(1, 2, 3), list(4, 5, 6)}, Like: list(0, 0, 0)}
	checkOne(t, table(), 1, rows, api.OK)
	checkOne(t, table(), -1, rows, api.OK)
	atoms := api.Cells{Frame: lengths(2, 3), Cells: []api.Array{scalar(1), scalar(2), scalar(3), scalar(4), scalar(5), scalar(6)}, Like: scalar(0)}
	checkOne(t, table(), 0, atoms, api.OK)
	checkOne(t, table(), 64, api.Cells{Cells: []api.Array{table()}, Like: zeros(2, 3)}, api.OK)
	checkOne(t, array(lengths(0, 3)), 1, api.Cells{Frame: lengths(0), Like: list(0, 0, 0)}, api.OK)
}

// TestOneEdges: scalars, arrays without items, frames without places, cells without atoms.
func TestOneEdges(t *testing.T) {
	for _, rank := range ranks() {
		checkOne(t, scalar(7), rank, api.Cells{Cells: []api.Array{scalar(7)}, Like: scalar(0)}, api.OK)
	}
	empty := array(lengths(0, 3))
	checkOne(t, empty, 0, api.Cells{Frame: lengths(0, 3), Like: scalar(0)}, api.OK)
	checkOne(t, empty, 2, api.Cells{Cells: []api.Array{empty}, Like: empty}, api.OK)
	checkOne(t, array(lengths(2, 0)), 1, api.Cells{Frame: lengths(2), Cells: []api.Array{list(), list()}, Like: list()}, api.OK)
	checkOne(t, array(lengths(0, 4096)), 1, api.Cells{Frame: lengths(0), Like: zeros(4096)}, api.OK)
	checkOne(t, array(lengths(0, 2, 3)), least, api.Cells{Frame: lengths(0, 2, 3), Like: scalar(0)}, api.OK)
}

// TestOne: all shapes by all ranks.
func TestOne(t *testing.T) {
	for _, s := range goodShapes() {
		y := numbered(s...)
		for _, rank := range ranks() {
			checkOne(t, y, rank, wantedCells(y, rank), api.OK)
		}
	}
}

func TestOneWrong(t *testing.T) {
	for _, y := range append(wrongArrays(), api.Array{}) {
		for _, rank := range []int{0, 1, -1, api.Inf, least, most} {
			checkOne(t, y, rank, api.Cells{}, api.ErrArg)
		}
	}
}

func checkTwo(t *testing.T, x, y api.Array, left, right int, want api.Pairs, e api.Errno) {
	t.Helper()
	got, gotE := Two(x, y, left, right)
	if gotE != e || !slices.Equal(got.Frame, want.Frame) || !alikeCells(got.Left, want.Left) || !alikeCells(got.Right, want.Right) || !alike(got.LikeLeft, want.LikeLeft) || !alike(got.LikeRight, want.LikeRight) {
		t.Errorf("P4.2: Two(%s, %s, %d, %d): frame %v, %s and %s, like %s and %s, %v; want frame %v, %s and %s, like %s and %s, %v", brief(x), brief(y), left, right,
			got.Frame, briefCells(got.Left), briefCells(got.Right), brief(got.LikeLeft), brief(got.LikeRight), gotE,
			want.Frame, briefCells(want.Left), briefCells(want.Right), brief(want.LikeLeft), brief(want.LikeRight), e)
	}
}

// pair tells the cells that the chapter's rule names for a place of the frame.
func pair(p api.Pairs, place int) (api.Array, api.Array) {
	places := sizeOf(p.Frame)
	return p.Left[place/(places/len(p.Left))], p.Right[place/(places/len(p.Right))]
}

func TestTwoExamples(t *testing.T) {
	rows := []api.Array{list(1, 2, 3), list(4, 5, 6)}
	atoms := []api.Array{scalar(1), scalar(2), scalar(3), scalar(4), scalar(5), scalar(6)}
	checkTwo(t, list(10, 20), table(), 0, 1, api.Pairs{Frame: lengths(2), Left: []api.Array{scalar(10), scalar(20)}, Right: rows, LikeLeft: scalar(0), LikeRight: list(0, 0, 0)}, api.OK)
	checkTwo(t, scalar(7), table(), 0, 0, api.Pairs{Frame: lengths(2, 3), Left: []api.Array{scalar(7)}, Right: atoms, LikeLeft: scalar(0), LikeRight: scalar(0)}, api.OK)
	checkTwo(t, list(1, 2, 3), table(), 0, 1, api.Pairs{}, api.ErrLength)

	p, _ := Two(list(10, 20), table(), 0, 1)
	if left, right := pair(p, 1); !alike(left, scalar(20)) || !alike(right, list(4, 5, 6)) {
		t.Errorf("P4.2: place 1 has %s and %s", brief(left), brief(right))
	}
	p, _ = Two(scalar(7), table(), 0, 0)
	if left, right := pair(p, 4); !alike(left, scalar(7)) || !alike(right, scalar(5)) {
		t.Errorf("P4.2: place 4 has %s and %s", brief(left), brief(right))
	}
}

// TestTwoEdges: frames without places beside sides with cells; lengths of 0 that do and do not agree.
func TestTwoEdges(t *testing.T) {
	two := []api.Array{scalar(1), scalar(2)}
	checkTwo(t, list(1, 2), array(lengths(2, 0)), 0, 0, api.Pairs{Frame: lengths(2, 0), Left: two, LikeLeft: scalar(0), LikeRight: scalar(0)}, api.OK)
	checkTwo(t, array(lengths(2, 0)), list(1, 2), 0, 0, api.Pairs{Frame: lengths(2, 0), Right: two, LikeLeft: scalar(0), LikeRight: scalar(0)}, api.OK)
	checkTwo(t, scalar(5), array(lengths(0, 3)), 0, 1, api.Pairs{Frame: lengths(0), Left: []api.Array{scalar(5)}, LikeLeft: scalar(0), LikeRight: list(0, 0, 0)}, api.OK)
	checkTwo(t, array(lengths(0, 3)), list(), 1, 0, api.Pairs{Frame: lengths(0), LikeLeft: list(0, 0, 0), LikeRight: scalar(0)}, api.OK)
	checkTwo(t, list(), list(1), 0, 0, api.Pairs{}, api.ErrLength)
	checkTwo(t, list(1), list(1, 2), 0, 0, api.Pairs{}, api.ErrLength)
	checkTwo(t, array(lengths(2, 2), 1, 2, 3, 4), table(), 0, 0, api.Pairs{}, api.ErrLength)
	checkTwo(t, list(1), list(1, 2), api.Inf, api.Inf, api.Pairs{Left: []api.Array{list(1)}, Right: []api.Array{list(1, 2)}, LikeLeft: list(0), LikeRight: list(0, 0)}, api.OK)
	checkTwo(t, list(1, 2), table(), least, -1, api.Pairs{Frame: lengths(2), Left: two, Right: []api.Array{list(1, 2, 3), list(4, 5, 6)}, LikeLeft: scalar(0), LikeRight: list(0, 0, 0)}, api.OK)
}

// pairShapes are shapes that agree here and there.
func pairShapes() [][]int {
	return [][]int{nil, lengths(0), lengths(1), lengths(2), lengths(3), lengths(2, 3), lengths(2, 0), lengths(0, 2), lengths(3, 2), lengths(2, 3, 4), lengths(2, 3, 0), lengths(2, 0, 3), lengths(2, 2, 2), lengths(1, 1, 1), lengths(2, 3, 4, 2), lengths(2, 3, 1, 1, 1, 1, 1, 2)}
}

// begins tells whether a list is the beginning of another one.
func begins(a, b []int) bool {
	for i, n := range a {
		if i >= len(b) || b[i] != n {
			return false
		}
	}
	return true
}

// wantedPairs are the pairs of two arrays that may be.
func wantedPairs(x, y api.Array, left, right int) (api.Pairs, api.Errno) {
	ofX, ofY := wantedCells(x, left), wantedCells(y, right)
	out := api.Pairs{Frame: ofX.Frame, Left: ofX.Cells, Right: ofY.Cells, LikeLeft: ofX.Like, LikeRight: ofY.Like}
	switch {
	case begins(ofX.Frame, ofY.Frame):
		out.Frame = ofY.Frame
	case !begins(ofY.Frame, ofX.Frame):
		return api.Pairs{}, api.ErrLength
	}
	return out, api.OK
}

// TestTwo: shapes that agree and shapes that do not, by all ranks; and which cells each place of the frame has: those that lie above it in either tree.
func TestTwo(t *testing.T) {
	for _, ofX := range pairShapes() {
		for _, ofY := range pairShapes() {
			for left := -3; left <= 4; left++ {
				for right := -3; right <= 4; right++ {
					x, y := numbered(ofX...), numbered(ofY...)
					want, e := wantedPairs(x, y, left, right)
					checkTwo(t, x, y, left, right, want, e)
					if e == api.OK {
						checkPairs(t, x, y, left, right)
					}
				}
			}
			if t.Failed() {
				return
			}
		}
	}
}

// checkPairs holds the cells of each place against the parts of both trees that its indices lead to.
func checkPairs(t *testing.T, x, y api.Array, left, right int) {
	t.Helper()
	p, _ := Two(x, y, left, right)
	treeX, treeY := treeOf(x), treeOf(y)
	rankX, rankY := cellRank(len(x.Shape), left), cellRank(len(y.Shape), right)
	for place, at := range everyIndex(p.Frame) {
		gotX, gotY := pair(p, place)
		wantX := flat(reach(treeX, at[:len(x.Shape)-rankX]), rankX)
		wantY := flat(reach(treeY, at[:len(y.Shape)-rankY]), rankY)
		if !slices.Equal(gotX.Atoms, wantX) || !slices.Equal(gotY.Atoms, wantY) {
			t.Errorf("P4.2: Two(%s, %s, %d, %d): place %d, %v, has %s and %s; want %v and %v", brief(x), brief(y), left, right, place, at, brief(gotX), brief(gotY), wantX, wantY)
			return
		}
	}
}

// TestTwoWrong: an array that may not be on either side, ahead of frames that do not agree.
func TestTwoWrong(t *testing.T) {
	for _, wrong := range append(wrongArrays(), api.Array{}) {
		for _, good := range []api.Array{scalar(1), list(), list(1, 2, 3), table()} {
			for _, rank := range []int{0, 1, -1, api.Inf} {
				checkTwo(t, wrong, good, rank, 0, api.Pairs{}, api.ErrArg)
				checkTwo(t, good, wrong, 0, rank, api.Pairs{}, api.ErrArg)
			}
		}
		checkTwo(t, wrong, wrong, 0, 0, api.Pairs{}, api.ErrArg)
	}
}

func TestEmptyExamples(t *testing.T) {
	a, e := Empty(lengths(0, 2), list(7, 8, 9), true)
	checkArray(t, "P4.9: Empty(0 2, 3 | .., true)", a, e, array(lengths(0, 2, 3)), api.OK)
	a, e = Empty(lengths(0), table(), false)
	checkArray(t, "P4.9: Empty(0, t, false)", a, e, array(lengths(0)), api.OK)
	a, e = Empty(lengths(2), table(), true)
	checkArray(t, "P4.9: Empty(2, t, true)", a, e, api.Array{}, api.ErrLength)
	a, e = Empty(lengths(0, 64), zeros(65), true)
	checkArray(t, "P4.9: Empty(0 64, 65 | .., true)", a, e, api.Array{}, api.ErrSize)
}

// TestEmpty: all frames with all arrays: those without places give the frame, and if told the array's shape behind it; those with places are refused.
func TestEmpty(t *testing.T) {
	for _, frame := range goodShapes() {
		places := !slices.Contains(frame, 0)
		for _, s := range goodShapes() {
			like := numbered(s...)
			want, wantE := array(slices.Concat(frame, s)), api.OK
			if !mayBe(want.Shape) {
				want, wantE = api.Array{}, api.ErrSize
			}
			alone, aloneE := array(frame), api.OK
			if places {
				want, wantE, alone, aloneE = api.Array{}, api.ErrLength, api.Array{}, api.ErrLength
			}
			a, e := Empty(frame, like, true)
			checkArray(t, fmt.Sprint("P4.9: Empty of ", frame, ", ", s, ", told"), a, e, want, wantE)
			a, e = Empty(frame, like, false)
			checkArray(t, fmt.Sprint("P4.9: Empty of ", frame, ", ", s, ", not told"), a, e, alone, aloneE)
		}
	}
}

// TestEmptyWrong: frames that may not be go first, then places, then an array that may not be, which is not looked at if it is not told.
func TestEmptyWrong(t *testing.T) {
	for _, c := range wrongShapes() {
		for _, like := range []api.Array{table(), zeros(4096), array(lengths(2), 1), {}} {
			for _, told := range []bool{true, false} {
				a, e := Empty(c.s, like, told)
				checkArray(t, fmt.Sprint("P4.9: Empty of the wrong frame ", c.s), a, e, api.Array{}, c.e)
			}
		}
	}
	for _, wrong := range append(wrongArrays(), api.Array{}) {
		for _, frame := range [][]int{lengths(0), lengths(0, 4096), append(times(7, 1), 0), lengths(0, 2)} {
			a, e := Empty(frame, wrong, true)
			checkArray(t, "P4.9: Empty of a wrong array, told: "+brief(wrong), a, e, api.Array{}, api.ErrArg)
			a, e = Empty(frame, wrong, false)
			checkArray(t, "P4.9: Empty of a wrong array, not told: "+brief(wrong), a, e, array(frame), api.OK)
		}
		for _, told := range []bool{true, false} {
			for _, frame := range [][]int{nil, lengths(1), lengths(2, 3), lengths(4096)} {
				a, e := Empty(frame, wrong, told)
				checkArray(t, "P4.9: Empty of a frame with places", a, e, api.Array{}, api.ErrLength)
			}
		}
	}
}
