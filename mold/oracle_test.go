package mold

import (
	"fmt"
	"math"
	"math/big"
	"slices"
	"testing"

	"abacus/api"
)

const (
	least = math.MinInt
	most  = math.MaxInt
)

// array is an array of these lengths and atoms, be it one that may be or not.
func array(s []int, atoms ...int64) api.Array { return api.Array{Shape: s, Atoms: atoms} }

func lengths(n ...int) []int { return n }

func scalar(n int64) api.Array { return array(nil, n) }

func list(atoms ...int64) api.Array { return array(lengths(len(atoms)), atoms...) }

// table is the one that the chapter's examples call t.
func table() api.Array { return array(lengths(2, 3), 1, 2, 3, 4, 5, 6) }

// times is a shape of n equal lengths.
func times(n, length int) []int { return slices.Repeat(lengths(length), n) }

// sizeOf is the number of a shape's places, of one that may be.
func sizeOf(s []int) int {
	size := 1
	for _, length := range s {
		size *= length
	}
	return size
}

func zeros(s ...int) api.Array { return array(s, make([]int64, sizeOf(s))...) }

// numbered is an array of that shape, no two atoms alike and none of them 0, some below 0.
func numbered(s ...int) api.Array {
	a := zeros(s...)
	for i := range a.Atoms {
		a.Atoms[i] = int64(10*i) - 15
	}
	return a
}

// goodShapes are shapes that may be.
func goodShapes() [][]int {
	return [][]int{
		nil, lengths(0), lengths(1), lengths(2), lengths(5), lengths(4095), lengths(4096),
		lengths(2, 3), lengths(3, 2), lengths(1, 1), lengths(1, 5), lengths(5, 1), lengths(0, 0), lengths(0, 3), lengths(3, 0), lengths(0, 4096), lengths(4096, 0), lengths(64, 64), lengths(32, 64), lengths(1, 4096), lengths(4096, 1),
		lengths(2, 3, 4), lengths(2, 0, 4), lengths(0, 3, 4), lengths(2, 3, 0), lengths(64, 0, 64), lengths(16, 16, 16),
		lengths(2, 3, 2, 2), times(7, 1), times(7, 2), times(8, 1), times(8, 0), times(8, 2), append(times(7, 2), 32), append(times(7, 0), 4096), append(lengths(2), times(7, 0)...), append(times(6, 1), 2, 3),
	}
}

// fewShapes are those of them that have few atoms.
func fewShapes() [][]int {
	return slices.DeleteFunc(goodShapes(), func(s []int) bool { return sizeOf(s) > 130 })
}

// wrongShapes are shapes that may not be.
func wrongShapes() [][]int {
	return [][]int{
		lengths(-1), lengths(least), lengths(1, -1), lengths(-2, -3), lengths(0, -1), lengths(5000, -1), append(times(8, 1), -1),
		times(9, 1), times(9, 0), times(100, 1), lengths(4097), lengths(most), lengths(64, 65), lengths(0, 4097), lengths(4097, 0), lengths(64, 0, 65),
		// Their products are 0 or 1, were they reckoned by 64 bits alone.
		lengths(1<<62, 4), lengths(1<<32, 1<<32), lengths(7, 7905747460161236407), lengths(0, most, most),
	}
}

// wrongArrays are arrays that may not be: of wrong shapes, and of good ones with too few and too many atoms.
func wrongArrays() []api.Array {
	out := []api.Array{{}}
	for _, s := range wrongShapes() {
		for _, n := range []int{0, 1, 2, 4097, 4160} {
			out = append(out, array(s, make([]int64, n)...))
		}
	}
	for _, s := range goodShapes() {
		size := sizeOf(s)
		for _, n := range []int{0, 1, size - 1, size + 1, 4097} {
			if n >= 0 && n != size {
				out = append(out, array(s, make([]int64, n)...))
			}
		}
	}
	return out
}

func alike(a, b api.Array) bool {
	return slices.Equal(a.Shape, b.Shape) && slices.Equal(a.Atoms, b.Atoms)
}

// brief cuts an array short, so that a failing test stays readable.
func brief(a api.Array) string {
	return fmt.Sprint(a.Shape[:min(len(a.Shape), 12)], "|", a.Atoms[:min(len(a.Atoms), 12)], " of ", len(a.Atoms))
}

// checkMonad and checkDyad hold an answer against what is wanted; beside an error that is an array of nothing.

func checkMonad(t *testing.T, op int, y, want api.Array, e api.Errno) {
	t.Helper()
	if got, gotE := Monad(op, y); gotE != e || !alike(got, want) {
		t.Errorf("P6.2: Monad(%d, %s): %s, %v; want %s, %v", op, brief(y), brief(got), gotE, brief(want), e)
	}
}

func checkDyad(t *testing.T, op int, x, y, want api.Array, e api.Errno) {
	t.Helper()
	promise := "P6.3"
	if op == api.PRavel {
		promise = "P6.4"
	}
	if got, gotE := Dyad(op, x, y); gotE != e || !alike(got, want) {
		t.Errorf("%s: Dyad(%d, %s, %s): %s, %v; want %s, %v", promise, op, brief(x), brief(y), brief(got), gotE, brief(want), e)
	}
}

// monadOps and dyadOps are the ops that have a row; numberOps those of the dyads that take the numbers of x.

func monadOps() []int {
	return []int{api.PTally, api.PShape, api.PRavel, api.PStitch, api.PItem, api.PTake, api.PTail, api.PDrop, api.PCurt, api.PRev, api.PTran, api.PLeft, api.PRight}
}

func dyadOps() []int {
	return []int{api.PShape, api.PRavel, api.PStitch, api.PItem, api.PTake, api.PDrop, api.PRev, api.PTran, api.PLeft, api.PRight}
}

func noDyads() []int { return []int{api.PTally, api.PTail, api.PCurt} }

func numberOps() []int { return []int{api.PShape, api.PTake, api.PDrop, api.PRev, api.PTran} }

// noRows are primitives of other tables, and numbers of no primitive; some are one of the table's by 32 or by 8 bits.
func noRows() []int {
	out := []int{0, -1, -22, -23, -28, -42, least, least + 1, most, most - 1, 1 << 32, 1<<32 + api.PShape, 1<<32 + api.PTally, -1<<32 + api.PTake, 1<<8 + api.PRavel, 1<<16 + api.PLeft, 1<<62 + api.PRight, 44, 1000, api.Prims + 1}
	for op := 1; op <= api.Prims; op++ {
		if !slices.Contains(monadOps(), op) {
			out = append(out, op)
		}
	}
	return out
}

// nest is an array as a tree: of rank 0 an atom, else its items.
type nest struct {
	atom  int64
	items []nest
}

// nested takes as many atoms as the tree of that shape has off the beginning.
func nested(s []int, atoms *[]int64) nest {
	if len(s) == 0 {
		n := nest{atom: (*atoms)[0]}
		*atoms = (*atoms)[1:]
		return n
	}
	var n nest
	for range s[0] {
		n.items = append(n.items, nested(s[1:], atoms))
	}
	return n
}

func treeOf(a api.Array) nest {
	atoms := a.Atoms
	return nested(a.Shape, &atoms)
}

// flat tells a tree's atoms; how deep they lie is told, since a tree without items does not show it.
func flat(n nest, rank int) []int64 {
	if rank == 0 {
		return []int64{n.atom}
	}
	var out []int64
	for _, item := range n.items {
		out = append(out, flat(item, rank-1)...)
	}
	return out
}

func ofTree(s []int, n nest) api.Array { return array(s, flat(n, len(s))...) }

// reach goes down a tree by indices.
func reach(n nest, at []int) nest {
	for _, i := range at {
		n = n.items[i]
	}
	return n
}

// everyIndex tells all indices of a shape in row order.
func everyIndex(s []int) [][]int {
	if len(s) == 0 {
		return [][]int{nil}
	}
	var out [][]int
	rest := everyIndex(s[1:])
	for i := range s[0] {
		for _, at := range rest {
			out = append(out, append(lengths(i), at...))
		}
	}
	return out
}

// mayBe tells whether there can be an array of that shape, no length of which is below 0.
func mayBe(s []int) bool {
	product := 1.0
	for _, length := range s {
		if length > 0 {
			product *= float64(length)
		}
	}
	return len(s) <= 8 && product <= 4096
}

// itemsOf are the items of an array that may be.
func itemsOf(y api.Array) []api.Array {
	if len(y.Shape) == 0 {
		return []api.Array{y}
	}
	var out []api.Array
	for _, item := range treeOf(y).items {
		out = append(out, ofTree(y.Shape[1:], item))
	}
	return out
}

// itemLengths is the shape of an item.
func itemLengths(y api.Array) []int {
	if len(y.Shape) == 0 {
		return nil
	}
	return y.Shape[1:]
}

// inRow lays items one behind the other.
func inRow(inner []int, items []api.Array) api.Array {
	out := api.Array{Shape: append(lengths(len(items)), inner...)}
	for _, item := range items {
		out.Atoms = append(out.Atoms, item.Atoms...)
	}
	return out
}

func refused(e api.Errno) (api.Array, api.Errno) { return api.Array{}, e }

// wantedMonad is what a row says of an array that may be.
func wantedMonad(op int, y api.Array) (api.Array, api.Errno) {
	items, inner := itemsOf(y), itemLengths(y)
	switch op {
	case api.PTally:
		return scalar(int64(len(items))), api.OK
	case api.PShape:
		out := list()
		for _, length := range y.Shape {
			out = list(append(out.Atoms, int64(length))...)
		}
		return out, api.OK
	case api.PRavel:
		return list(y.Atoms...), api.OK
	case api.PStitch:
		return array(lengths(len(items), sizeOf(inner)), y.Atoms...), api.OK
	case api.PItem:
		if !mayBe(append(lengths(1), y.Shape...)) {
			return refused(api.ErrSize)
		}
		return inRow(y.Shape, []api.Array{y}), api.OK
	case api.PTake, api.PTail:
		if len(items) == 0 {
			return zeros(inner...), api.OK
		}
		if op == api.PTake {
			return items[0], api.OK
		}
		return items[len(items)-1], api.OK
	case api.PDrop:
		return inRow(inner, items[min(1, len(items)):]), api.OK
	case api.PCurt:
		return inRow(inner, items[:max(1, len(items))-1]), api.OK
	case api.PRev:
		if len(y.Shape) == 0 {
			return y, api.OK
		}
		slices.Reverse(items)
		return inRow(inner, items), api.OK
	case api.PTran:
		var order []int
		for axis := range y.Shape {
			order = append(lengths(axis), order...)
		}
		return byAxes(y, order), api.OK
	}
	return y, api.OK
}

// byAxes puts the axes of an array into another order.
func byAxes(y api.Array, order []int) api.Array {
	var out api.Array
	for _, axis := range order {
		out.Shape = append(out.Shape, y.Shape[axis])
	}
	tree := treeOf(y)
	for _, at := range everyIndex(out.Shape) {
		from := make([]int, len(order))
		for i, axis := range order {
			from[axis] = at[i]
		}
		out.Atoms = append(out.Atoms, reach(tree, from).atom)
	}
	return out
}

// wantedDyad is what a row says of two arrays that may be.
func wantedDyad(op int, x, y api.Array) (api.Array, api.Errno) {
	if slices.Contains(numberOps(), op) && len(x.Shape) > 1 {
		return refused(api.ErrRank)
	}
	switch op {
	case api.PShape:
		return wantedReshape(x.Atoms, y)
	case api.PRavel:
		return wantedJoin(x, y)
	case api.PStitch:
		return wantedStitch(x, y)
	case api.PItem:
		return wantedPair(x, y)
	case api.PTake:
		return wantedTake(x.Atoms, y)
	case api.PDrop:
		return wantedDrop(x.Atoms, y)
	case api.PRev:
		return wantedTurn(x.Atoms, y)
	case api.PTran:
		return wantedOrder(x.Atoms, y)
	case api.PLeft:
		return x, api.OK
	}
	return y, api.OK
}

func wantedReshape(numbers []int64, y api.Array) (api.Array, api.Errno) {
	var s []int
	some := true
	for _, n := range numbers {
		if n < 0 {
			return refused(api.ErrDomain)
		}
		some = some && n != 0
		s = append(s, int(n))
	}
	s = append(s, itemLengths(y)...)
	items := itemsOf(y)
	if !mayBe(s) {
		return refused(api.ErrSize)
	}
	if some && len(items) == 0 {
		return refused(api.ErrLength)
	}
	out := array(s)
	for i := 0; len(out.Atoms) < sizeOf(s); i++ {
		out.Atoms = append(out.Atoms, items[i%len(items)].Atoms...)
	}
	return out, api.OK
}

// withOnes is a scalar as an array with so many lengths of 1; any other array as it is.
func withOnes(y api.Array, n int) ([]int, nest) {
	if len(y.Shape) > 0 {
		return y.Shape, treeOf(y)
	}
	tree := treeOf(y)
	for range n {
		tree = nest{items: []nest{tree}}
	}
	return times(n, 1), tree
}

func wantedTake(numbers []int64, y api.Array) (api.Array, api.Errno) {
	s, tree := withOnes(y, len(numbers))
	if len(numbers) > len(s) {
		return refused(api.ErrLength)
	}
	var to []int
	for _, n := range numbers {
		if n > 4096 || n < -4096 {
			return refused(api.ErrSize)
		}
		to = append(to, int(max(n, -n)))
	}
	to = append(to, s[len(numbers):]...)
	if !mayBe(to) {
		return refused(api.ErrSize)
	}
	return ofTree(to, taken(tree, numbers, to)), api.OK
}

// taken takes from a tree axis by axis; the answer has that shape.
func taken(n nest, numbers []int64, to []int) nest {
	if len(numbers) == 0 {
		return n
	}
	var out nest
	for _, item := range n.items {
		out.items = append(out.items, taken(item, numbers[1:], to[1:]))
	}
	blanks := slices.Repeat([]nest{treeOf(zeros(to[1:]...))}, to[0])
	if numbers[0] < 0 {
		out.items = append(blanks, out.items...)
		out.items = out.items[len(out.items)-to[0]:]
	} else {
		out.items = append(out.items, blanks...)[:to[0]]
	}
	return out
}

func wantedDrop(numbers []int64, y api.Array) (api.Array, api.Errno) {
	s, tree := withOnes(y, len(numbers))
	if len(numbers) > len(s) {
		return refused(api.ErrLength)
	}
	to := slices.Clone(s)
	for i, n := range numbers {
		for ; n > 0 && to[i] > 0; n-- {
			to[i]--
		}
		for ; n < 0 && to[i] > 0; n++ {
			to[i]--
		}
	}
	if !mayBe(to) {
		return refused(api.ErrSize)
	}
	return ofTree(to, dropped(tree, numbers, to)), api.OK
}

func dropped(n nest, numbers []int64, to []int) nest {
	if len(numbers) == 0 {
		return n
	}
	kept := n.items[:to[0]]
	if numbers[0] > 0 {
		kept = n.items[len(n.items)-to[0]:]
	}
	var out nest
	for _, item := range kept {
		out.items = append(out.items, dropped(item, numbers[1:], to[1:]))
	}
	return out
}

func wantedTurn(numbers []int64, y api.Array) (api.Array, api.Errno) {
	if len(numbers) > max(1, len(y.Shape)) {
		return refused(api.ErrLength)
	}
	if len(y.Shape) == 0 {
		return y, api.OK
	}
	return ofTree(y.Shape, turned(treeOf(y), numbers)), api.OK
}

func turned(n nest, numbers []int64) nest {
	if len(numbers) == 0 || len(n.items) == 0 {
		return n
	}
	first := new(big.Int).Mod(big.NewInt(numbers[0]), big.NewInt(int64(len(n.items)))).Int64()
	var out nest
	for _, item := range append(slices.Clone(n.items[first:]), n.items[:first]...) {
		out.items = append(out.items, turned(item, numbers[1:]))
	}
	return out
}

func wantedOrder(numbers []int64, y api.Array) (api.Array, api.Errno) {
	rank := len(y.Shape)
	var named []int
	for _, n := range numbers {
		at := -1
		for axis := range rank {
			if n == int64(axis) || n == int64(axis-rank) {
				at = axis
			}
		}
		if at < 0 {
			return refused(api.ErrIndex)
		}
		if slices.Contains(named, at) {
			return refused(api.ErrDomain)
		}
		named = append(named, at)
	}
	var order []int
	for axis := range rank {
		if !slices.Contains(named, axis) {
			order = append(order, axis)
		}
	}
	return byAxes(y, append(order, named...)), api.OK
}

// over lays a scalar out over a shape.
func over(a api.Array, s []int) api.Array {
	if len(a.Shape) > 0 {
		return a
	}
	out := zeros(s...)
	for i := range out.Atoms {
		out.Atoms[i] = a.Atoms[0]
	}
	return out
}

// padded is a tree of the common shape with a tree of that rank at the beginning of each axis.
func padded(n nest, rank int, common []int) nest {
	if len(common) == 0 {
		return n
	}
	items := n.items
	if rank < len(common) {
		items, rank = []nest{n}, rank+1
	}
	var out nest
	for _, item := range items {
		out.items = append(out.items, padded(item, rank-1, common[1:]))
	}
	for len(out.items) < common[0] {
		out.items = append(out.items, treeOf(zeros(common[1:]...)))
	}
	return out
}

// greatest tells the greater length of each axis of two shapes.
func greatest(a, b []int) []int {
	a, b = slices.Clone(a), slices.Clone(b)
	for len(a) < len(b) {
		a = slices.Insert(a, 0, 1)
	}
	for len(b) < len(a) {
		b = slices.Insert(b, 0, 1)
	}
	for i := range a {
		a[i] = max(a[i], b[i])
	}
	return a
}

func wantedJoin(x, y api.Array) (api.Array, api.Errno) {
	if len(x.Shape) == 0 && len(y.Shape) == 0 {
		return list(x.Atoms[0], y.Atoms[0]), api.OK
	}
	x, y = over(x, itemLengths(y)), over(y, itemLengths(x))
	common := greatest(x.Shape, y.Shape)
	count := 0
	for _, a := range []api.Array{x, y} {
		if len(a.Shape) < len(common) {
			count++
		} else {
			count += a.Shape[0]
		}
	}
	common[0] = count
	if !mayBe(common) {
		return refused(api.ErrSize)
	}
	out := array(common)
	for _, a := range []api.Array{x, y} {
		items := []nest{treeOf(a)}
		rank := len(a.Shape)
		if rank == len(common) {
			items, rank = items[0].items, rank-1
		}
		for _, item := range items {
			out.Atoms = append(out.Atoms, flat(padded(item, rank, common[1:]), len(common)-1)...)
		}
	}
	return out, api.OK
}

func wantedPair(x, y api.Array) (api.Array, api.Errno) {
	x, y = over(x, y.Shape), over(y, x.Shape)
	return under(lengths(2), x, y)
}

// under is some arrays together under a frame that has as many places.
func under(frame []int, arrays ...api.Array) (api.Array, api.Errno) {
	var common []int
	for i, a := range arrays {
		if i == 0 {
			common = a.Shape
		}
		common = greatest(common, a.Shape)
	}
	out := api.Array{Shape: slices.Concat(frame, common)}
	if !mayBe(out.Shape) {
		return refused(api.ErrSize)
	}
	for _, a := range arrays {
		out.Atoms = append(out.Atoms, flat(padded(treeOf(a), len(a.Shape), common), len(common))...)
	}
	return out, api.OK
}

func wantedStitch(x, y api.Array) (api.Array, api.Errno) {
	xs, ys := itemsOf(x), itemsOf(y)
	switch {
	case len(x.Shape) == 0 && len(y.Shape) == 0:
		return wantedJoin(x, y)
	case len(x.Shape) == 0:
		xs = slices.Repeat(xs, len(ys))
	case len(y.Shape) == 0:
		ys = slices.Repeat(ys, len(xs))
	}
	if len(xs) != len(ys) {
		return refused(api.ErrLength)
	}
	if len(xs) == 0 {
		like, e := wantedJoin(zeros(itemLengths(x)...), zeros(itemLengths(y)...))
		if e != api.OK {
			return list(), api.OK
		}
		return array(append(lengths(0), like.Shape...)), api.OK
	}
	var all []api.Array
	for i := range xs {
		a, e := wantedJoin(xs[i], ys[i])
		if e != api.OK {
			return refused(e)
		}
		all = append(all, a)
	}
	return under(lengths(len(all)), all...)
}

// dice are numbers that look thrown, the same ones each time.
type dice uint64

func (d *dice) throw(n int) int {
	*d = *d*6364136223846793005 + 1442695040888963407
	return int(uint64(*d) >> 33 % uint64(n))
}
