package cell

import (
	"fmt"
	"math"
	"slices"
	"testing"

	"abacus/api"
)

const (
	least = math.MinInt
	most  = math.MaxInt
)

// array is an array of these lengths and atoms, be it one that may be or not.
func array(s []int, atoms ...int64) api.Array { return api.Array{Shape: s, Atoms: atoms} }

func lengths(n ...int) []int { return n }

func scalar(n int64) api.Array { return array(nil, n) }

func list(atoms ...int64) api.Array { return array(lengths(len(atoms)), atoms...) }

// table is the one that the chapter's examples speak of.
func table() api.Array { return array(lengths(2, 3), 1, 2, 3, 4, 5, 6) }

// times is a shape of n equal lengths.
func times(n, length int) []int { return slices.Repeat(lengths(length), n) }

// sizeOf is the number of a shape's places, of one that may be.
func sizeOf(s []int) int {
	size := 1
	for _, length := range s {
		size *= length
	}
	return size
}

func zeros(s ...int) api.Array { return array(s, make([]int64, sizeOf(s))...) }

// numbered is an array of that shape, no two atoms alike and none of them 0, some below 0.
func numbered(s ...int) api.Array {
	a := zeros(s...)
	for i := range a.Atoms {
		a.Atoms[i] = int64(10*i) - 15
	}
	return a
}

// goodShapes are shapes that may be.
func goodShapes() [][]int {
	return [][]int{
		nil, lengths(0), lengths(1), lengths(2), lengths(5), lengths(4096),
		lengths(2, 3), lengths(3, 2), lengths(1, 1), lengths(1, 5), lengths(5, 1), lengths(0, 0), lengths(0, 3), lengths(3, 0), lengths(0, 4096), lengths(4096, 0), lengths(64, 64), lengths(1, 4096), lengths(4096, 1),
		lengths(2, 3, 4), lengths(2, 0, 4), lengths(0, 3, 4), lengths(2, 3, 0), lengths(64, 0, 64), lengths(16, 16, 16),
		lengths(2, 3, 2, 2), times(8, 1), times(8, 0), times(8, 2), append(times(7, 2), 32), append(times(7, 0), 4096), append(lengths(2), times(7, 0)...),
	}
}

// wrongShapes are shapes that may not be, and why.
func wrongShapes() []struct {
	s []int
	e api.Errno
} {
	return []struct {
		s []int
		e api.Errno
	}{
		{lengths(-1), api.ErrArg}, {lengths(least), api.ErrArg}, {lengths(1, -1), api.ErrArg}, {lengths(-2, -3), api.ErrArg}, {lengths(0, -1), api.ErrArg}, {lengths(5000, -1), api.ErrArg}, {append(times(8, 1), -1), api.ErrArg},
		{times(9, 1), api.ErrSize}, {times(9, 0), api.ErrSize}, {times(100, 1), api.ErrSize}, {lengths(4097), api.ErrSize}, {lengths(most), api.ErrSize}, {lengths(64, 65), api.ErrSize}, {lengths(0, 4097), api.ErrSize}, {lengths(4097, 0), api.ErrSize}, {lengths(64, 0, 65), api.ErrSize},
		// Their products are 0 or 1, were they reckoned by 64 bits alone.
		{lengths(1<<62, 4), api.ErrSize}, {lengths(1<<32, 1<<32), api.ErrSize}, {lengths(7, 7905747460161236407), api.ErrSize}, {lengths(0, most, most), api.ErrSize},
	}
}

// wrongArrays are arrays that may not be: of wrong shapes, and of good ones with too few and too many atoms.
func wrongArrays() []api.Array {
	var out []api.Array
	for _, c := range wrongShapes() {
		for _, n := range []int{0, 1, 2, 4097, 4160} {
			out = append(out, array(c.s, make([]int64, n)...))
		}
	}
	for _, s := range goodShapes() {
		size := sizeOf(s)
		for _, n := range []int{0, 1, size - 1, size + 1, 4097} {
			if n >= 0 && n != size {
				out = append(out, array(s, make([]int64, n)...))
			}
		}
	}
	return out
}

func alike(a, b api.Array) bool {
	return slices.Equal(a.Shape, b.Shape) && slices.Equal(a.Atoms, b.Atoms)
}

// brief cuts an array short, so that a failing test stays readable.
func brief(a api.Array) string {
	return fmt.Sprint(a.Shape[:min(len(a.Shape), 12)], "|", a.Atoms[:min(len(a.Atoms), 12)], " of ", len(a.Atoms))
}

// checkArray holds what a call answered against what is wanted; beside an error that is an array of nothing.
func checkArray(t *testing.T, what string, got api.Array, e api.Errno, want api.Array, wantE api.Errno) {
	t.Helper()
	if e != wantE || !alike(got, want) {
		t.Errorf("%s: %s, %v; want %s, %v", what, brief(got), e, brief(want), wantE)
	}
}

// nest is an array as a tree: of rank 0 an atom, else its items.
type nest struct {
	atom  int64
	items []nest
}

// nested takes as many atoms as the tree of that shape has off the beginning.
func nested(s []int, atoms *[]int64) nest {
	if len(s) == 0 {
		n := nest{atom: (*atoms)[0]}
		*atoms = (*atoms)[1:]
		return n
	}
	var n nest
	for range s[0] {
		n.items = append(n.items, nested(s[1:], atoms))
	}
	return n
}

func treeOf(a api.Array) nest {
	atoms := a.Atoms
	return nested(a.Shape, &atoms)
}

// flat tells a tree's atoms; how deep they lie is told, since a tree without items does not show it.
func flat(n nest, rank int) []int64 {
	if rank == 0 {
		return []int64{n.atom}
	}
	var out []int64
	for _, item := range n.items {
		out = append(out, flat(item, rank-1)...)
	}
	return out
}

// below tells the trees that lie so deep, in order.
func below(n nest, depth int) []nest {
	if depth == 0 {
		return []nest{n}
	}
	var out []nest
	for _, item := range n.items {
		out = append(out, below(item, depth-1)...)
	}
	return out
}

// reach goes down a tree by indices.
func reach(n nest, at []int) nest {
	for _, i := range at {
		n = n.items[i]
	}
	return n
}

// everyIndex tells all indices of a shape in row order.
func everyIndex(s []int) [][]int {
	if len(s) == 0 {
		return [][]int{nil}
	}
	var out [][]int
	rest := everyIndex(s[1:])
	for i := range s[0] {
		for _, at := range rest {
			out = append(out, append(lengths(i), at...))
		}
	}
	return out
}

// cellRank counts a cell's rank axis by axis, so that no rank is too great to reckon with.
func cellRank(k, rank int) int {
	c := 0
	if rank < 0 {
		for c = k; c > 0 && rank < 0; rank++ {
			c--
		}
		return c
	}
	for ; c < k && rank > 0; rank-- {
		c++
	}
	return c
}

// wantedCells are the cells of an array that may be.
func wantedCells(y api.Array, rank int) api.Cells {
	c := cellRank(len(y.Shape), rank)
	frame, inner := y.Shape[:len(y.Shape)-c], y.Shape[len(y.Shape)-c:]
	out := api.Cells{Frame: frame, Like: zeros(inner...)}
	for _, n := range below(treeOf(y), len(frame)) {
		out.Cells = append(out.Cells, array(inner, flat(n, c)...))
	}
	return out
}

// padded is a tree of the common shape with a tree of that rank at the beginning of each axis.
func padded(n nest, rank int, common []int) nest {
	if len(common) == 0 {
		return n
	}
	items := n.items
	if rank < len(common) {
		items, rank = []nest{n}, rank+1
	}
	var out nest
	for _, item := range items {
		out.items = append(out.items, padded(item, rank-1, common[1:]))
	}
	for len(out.items) < common[0] {
		out.items = append(out.items, treeOf(zeros(common[1:]...)))
	}
	return out
}

// commonShape is the common shape of some, told from the last axis on.
func commonShape(arrays []api.Array) []int {
	var back []int
	for axis := 1; ; axis++ {
		length, has := 0, false
		for _, a := range arrays {
			if axis <= len(a.Shape) {
				length, has = max(length, a.Shape[len(a.Shape)-axis]), true
			} else {
				length = max(length, 1)
			}
		}
		if !has {
			slices.Reverse(back)
			return back
		}
		back = append(back, length)
	}
}

// mayBe tells whether there can be an array of that shape, no length of which is below 0.
func mayBe(s []int) bool {
	product := 1.0
	for _, length := range s {
		if length > 0 {
			product *= float64(length)
		}
	}
	return len(s) <= 8 && product <= 4096
}

// joined is what some arrays are together under a frame that has as many places.
func joined(frame []int, arrays []api.Array) api.Array {
	common := commonShape(arrays)
	out := api.Array{Shape: slices.Concat(frame, common)}
	for _, a := range arrays {
		out.Atoms = append(out.Atoms, flat(padded(treeOf(a), len(a.Shape), common), len(common))...)
	}
	return out
}
