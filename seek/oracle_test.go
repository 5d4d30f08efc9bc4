package seek

import (
	"fmt"
	"math"
	"slices"
	"testing"

	"abacus/api"
)

const (
	least = math.MinInt
	most  = math.MaxInt
)

// array is an array of these lengths and atoms, be it one that may be or not.
func array(s []int, atoms ...int64) api.Array { return api.Array{Shape: s, Atoms: atoms} }

func lengths(n ...int) []int { return n }

func scalar(n int64) api.Array { return array(nil, n) }

func list(atoms ...int64) api.Array { return array(lengths(len(atoms)), atoms...) }

// table is the one that the chapter's examples call m.
func table() api.Array { return array(lengths(3, 2), 1, 2, 3, 4, 1, 2) }

// times is a shape of n equal lengths.
func times(n, length int) []int { return slices.Repeat(lengths(length), n) }

// sizeOf is the number of a shape's places, of one that may be.
func sizeOf(s []int) int {
	size := 1
	for _, length := range s {
		size *= length
	}
	return size
}

func zeros(s ...int) api.Array { return array(s, make([]int64, sizeOf(s))...) }

// numbered is an array of that shape, no two atoms alike, falling.
func numbered(s ...int) api.Array {
	a := zeros(s...)
	for i := range a.Atoms {
		a.Atoms[i] = 15 - int64(10*i)
	}
	return a
}

// goodShapes are shapes that may be.
func goodShapes() [][]int {
	return [][]int{
		nil, lengths(0), lengths(1), lengths(2), lengths(5), lengths(64), lengths(65), lengths(4095), lengths(4096),
		lengths(2, 3), lengths(3, 2), lengths(1, 1), lengths(1, 5), lengths(5, 1), lengths(0, 0), lengths(0, 3), lengths(3, 0), lengths(0, 4096), lengths(4096, 0), lengths(64, 64), lengths(32, 64), lengths(1, 4096), lengths(4096, 1),
		lengths(2, 3, 4), lengths(2, 0, 4), lengths(0, 3, 4), lengths(2, 3, 0), lengths(64, 0, 64), lengths(16, 16, 16),
		lengths(2, 3, 2, 2), times(7, 1), times(7, 2), times(8, 1), times(8, 0), times(8, 2), append(times(7, 2), 32), append(times(7, 0), 4096), append(lengths(2), times(7, 0)...), append(times(6, 1), 2, 3),
	}
}

// fewShapes are those of them that have few atoms and few items.
func fewShapes() [][]int {
	return slices.DeleteFunc(goodShapes(), func(s []int) bool { return sizeOf(s) > 130 || len(s) > 0 && s[0] > 130 })
}

// wrongShapes are shapes that may not be.
func wrongShapes() [][]int {
	return [][]int{
		lengths(-1), lengths(least), lengths(1, -1), lengths(-2, -3), lengths(0, -1), lengths(5000, -1), append(times(8, 1), -1),
		times(9, 1), times(9, 0), times(100, 1), lengths(4097), lengths(most), lengths(64, 65), lengths(0, 4097), lengths(4097, 0), lengths(64, 0, 65),
		// Their products are 0 or 1, were they reckoned by 64 bits alone.
		lengths(1<<62, 4), lengths(1<<32, 1<<32), lengths(7, 7905747460161236407), lengths(0, most, most),
	}
}

// wrongArrays are arrays that may not be: of wrong shapes, and of good ones with too few and too many atoms.
func wrongArrays() []api.Array {
	out := []api.Array{{}}
	for _, s := range wrongShapes() {
		for _, n := range []int{0, 1, 2, 4097, 4160} {
			out = append(out, array(s, make([]int64, n)...))
		}
	}
	for _, s := range goodShapes() {
		size := sizeOf(s)
		for _, n := range []int{0, 1, size - 1, size + 1, 4097} {
			if n >= 0 && n != size {
				out = append(out, array(s, make([]int64, n)...))
			}
		}
	}
	return out
}

func alike(a, b api.Array) bool {
	return slices.Equal(a.Shape, b.Shape) && slices.Equal(a.Atoms, b.Atoms)
}

// brief cuts an array short, so that a failing test stays readable.
func brief(a api.Array) string {
	return fmt.Sprint(a.Shape[:min(len(a.Shape), 12)], "|", a.Atoms[:min(len(a.Atoms), 12)], " of ", len(a.Atoms))
}

// checkMonad and checkDyad hold an answer against what is wanted; beside an error that is an array of nothing.

func checkMonad(t *testing.T, op int, y, want api.Array, e api.Errno) {
	t.Helper()
	if got, gotE := Monad(op, y); gotE != e || !alike(got, want) {
		t.Errorf("P7.2: Monad(%d, %s): %s, %v; want %s, %v", op, brief(y), brief(got), gotE, brief(want), e)
	}
}

func checkDyad(t *testing.T, op int, x, y, want api.Array, e api.Errno) {
	t.Helper()
	if got, gotE := Dyad(op, x, y); gotE != e || !alike(got, want) {
		t.Errorf("P7.2: Dyad(%d, %s, %s): %s, %v; want %s, %v", op, brief(x), brief(y), brief(got), gotE, brief(want), e)
	}
}

// monadOps and dyadOps are the ops whose row has something for that valence; tableOps all that have a row.

func monadOps() []int { return []int{api.PNub, api.PNe, api.PEq, api.PUp, api.PDown} }

func dyadOps() []int {
	return []int{api.PFrom, api.PIota, api.PIn, api.PUp, api.PDown, api.PNot, api.PMatch}
}

func tableOps() []int {
	return []int{api.PFrom, api.PIota, api.PIn, api.PNub, api.PNe, api.PEq, api.PUp, api.PDown, api.PNot, api.PMatch}
}

func noMonads() []int { return []int{api.PFrom, api.PIota, api.PIn, api.PNot, api.PMatch} }

func noDyads() []int { return []int{api.PNub, api.PNe, api.PEq} }

// noRows are primitives of other tables, and numbers of no primitive; some are one of the table's by 32 or by 8 bits.
func noRows() []int {
	out := []int{0, -1, -10, -27, -28, -37, -38, -43, least, least + 1, most, most - 1, 1 << 32, 1<<32 + api.PFrom, 1<<32 + api.PUp, -1<<32 + api.PNub, 1<<8 + api.PIota, 1<<16 + api.PEq, 1<<62 + api.PMatch, 44, 1000, api.Prims + 1}
	for op := 1; op <= api.Prims; op++ {
		if !slices.Contains(tableOps(), op) {
			out = append(out, op)
		}
	}
	return out
}

// nest is an array as a tree: of rank 0 an atom, else its items.
type nest struct {
	atom  int64
	items []nest
}

// nested takes as many atoms as the tree of that shape has off the beginning.
func nested(s []int, atoms *[]int64) nest {
	if len(s) == 0 {
		n := nest{atom: (*atoms)[0]}
		*atoms = (*atoms)[1:]
		return n
	}
	var n nest
	for range s[0] {
		n.items = append(n.items, nested(s[1:], atoms))
	}
	return n
}

func treeOf(a api.Array) nest {
	atoms := a.Atoms
	return nested(a.Shape, &atoms)
}

// flat tells a tree's atoms; how deep they lie is told, since a tree without items does not show it.
func flat(n nest, rank int) []int64 {
	if rank == 0 {
		return []int64{n.atom}
	}
	var out []int64
	for _, item := range n.items {
		out = append(out, flat(item, rank-1)...)
	}
	return out
}

// deep tells the trees that lie so deep in a tree, in row order.
func deep(n nest, depth int) []nest {
	if depth == 0 {
		return []nest{n}
	}
	var out []nest
	for _, item := range n.items {
		out = append(out, deep(item, depth-1)...)
	}
	return out
}

// parts are the cells below so many lengths of an array that may be.
func parts(a api.Array, depth int) []api.Array {
	inner := a.Shape[depth:]
	var out []api.Array
	for _, n := range deep(treeOf(a), depth) {
		out = append(out, array(inner, flat(n, len(inner))...))
	}
	return out
}

// itemLengths is the shape of an item.
func itemLengths(a api.Array) []int {
	if len(a.Shape) == 0 {
		return nil
	}
	return a.Shape[1:]
}

// items are those of an array that may be.
func items(a api.Array) []api.Array { return parts(a, len(a.Shape)-len(itemLengths(a))) }

// inRow lays items one behind the other.
func inRow(inner []int, items []api.Array) api.Array {
	out := api.Array{Shape: append(lengths(len(items)), inner...)}
	for _, item := range items {
		out.Atoms = append(out.Atoms, item.Atoms...)
	}
	return out
}

func refused(e api.Errno) (api.Array, api.Errno) { return api.Array{}, e }

// ahead tells whether an item stands before another one of the same shape.
func ahead(a, b api.Array) bool {
	for i, n := range a.Atoms {
		if n != b.Atoms[i] {
			return n < b.Atoms[i]
		}
	}
	return false
}

// inOrder tells the places of items as they rise or fall: behind each item stand as many as are to stand behind it.
func inOrder(items []api.Array, falls bool) []int {
	out := make([]int, len(items))
	for i, a := range items {
		before := 0
		for j, b := range items {
			if alike(a, b) && j < i || !falls && ahead(b, a) || falls && ahead(a, b) {
				before++
			}
		}
		out[before] = i
	}
	return out
}

// placeOf is the place of the first item that is the same, or how many there are.
func placeOf(items []api.Array, a api.Array) int {
	for i, item := range items {
		if alike(item, a) {
			return i
		}
	}
	return len(items)
}

// kinds are the items of which none ahead is the same.
func kinds(items []api.Array) []api.Array {
	var out []api.Array
	for _, item := range items {
		if placeOf(out, item) == len(out) {
			out = append(out, item)
		}
	}
	return out
}

func one(so bool) int64 {
	if so {
		return 1
	}
	return 0
}

// wantedMonad is what a row says of an array that may be.
func wantedMonad(op int, y api.Array) (api.Array, api.Errno) {
	all := items(y)
	out := list()
	switch op {
	case api.PNub:
		return inRow(itemLengths(y), kinds(all)), api.OK
	case api.PNe:
		for i, item := range all {
			out = list(append(out.Atoms, one(placeOf(all, item) == i))...)
		}
		return out, api.OK
	case api.PEq:
		rows := kinds(all)
		if len(rows)*len(all) > 4096 {
			return refused(api.ErrSize)
		}
		for _, row := range rows {
			for _, item := range all {
				out.Atoms = append(out.Atoms, one(alike(row, item)))
			}
		}
		return array(lengths(len(rows), len(all)), out.Atoms...), api.OK
	}
	for _, place := range inOrder(all, op == api.PDown) {
		out = list(append(out.Atoms, int64(place))...)
	}
	return out, api.OK
}

// wantedDyad is what a row says of two arrays that may be.
func wantedDyad(op int, x, y api.Array) (api.Array, api.Errno) {
	switch op {
	case api.PFrom:
		return wantedFrom(x, y)
	case api.PIota:
		all := items(x)
		return eachPart(y, len(itemLengths(x)), func(part api.Array) int64 { return int64(placeOf(all, part)) }), api.OK
	case api.PIn:
		all := items(y)
		return eachPart(x, len(itemLengths(y)), func(part api.Array) int64 { return one(placeOf(all, part) < len(all)) }), api.OK
	case api.PNot:
		all := items(y)
		var left []api.Array
		for _, item := range items(x) {
			if placeOf(all, item) == len(all) {
				left = append(left, item)
			}
		}
		return inRow(itemLengths(x), left), api.OK
	case api.PMatch:
		return scalar(one(alike(x, y))), api.OK
	}
	xs, ys := items(x), items(y)
	if len(xs) != len(ys) {
		return refused(api.ErrLength)
	}
	var out []api.Array
	for _, place := range inOrder(ys, op == api.PDown) {
		out = append(out, xs[place])
	}
	return inRow(itemLengths(x), out), api.OK
}

func wantedFrom(x, y api.Array) (api.Array, api.Errno) {
	if len(x.Shape) > 0 {
		return refused(api.ErrRank)
	}
	all := items(y)
	for i, item := range all {
		if x.Atoms[0] == int64(i) || x.Atoms[0] == int64(i-len(all)) {
			return item, api.OK
		}
	}
	return refused(api.ErrIndex)
}

// eachPart has a number for each cell of that rank.
func eachPart(a api.Array, rank int, tell func(part api.Array) int64) api.Array {
	depth := max(0, len(a.Shape)-rank)
	out := array(a.Shape[:depth])
	for _, part := range parts(a, depth) {
		out.Atoms = append(out.Atoms, tell(part))
	}
	return out
}

// dice are numbers that look thrown, the same ones each time.
type dice uint64

func (d *dice) throw(n int) int {
	*d = *d*6364136223846793005 + 1442695040888963407
	return int(uint64(*d) >> 33 % uint64(n))
}

// shape throws a shape of at most so many lengths with few places.
func (d *dice) shape(rank int) []int {
	s := make([]int, d.throw(rank+1))
	for i := range s {
		s[i] = d.throw(4)
		if d.throw(3) > 0 && len(s) > 3 {
			s[i] = 1
		}
	}
	return s
}

// array throws the atoms of an array of that shape out of few numbers, some of them the farthest ones, so that items come again.
func (d *dice) array(s []int) api.Array {
	few := [][]int64{{0}, {1, 2}, {0, -1, 1}, {api.Min, 0, api.Max}, {5, 1, 3, 2, 4, -1}, {1 << 32, 0, 1<<32 + 1, -1 << 32}}[d.throw(6)]
	a := zeros(s...)
	for i := range a.Atoms {
		a.Atoms[i] = few[d.throw(len(few))]
	}
	return a
}
