package mold

import (
	"slices"

	"abacus/api"
	"abacus/arr"
	"abacus/cell"
	"abacus/shape"
)

func countItems(y api.Array) (api.Array, api.Errno) {
	return arr.Scalar(int64(arr.Items(y))), api.OK
}

func tellShape(y api.Array) (api.Array, api.Errno) {
	lengths := make([]int64, len(y.Shape))
	for i, length := range y.Shape {
		lengths[i] = int64(length)
	}
	return api.Array{Shape: []int{len(lengths)}, Atoms: lengths}, api.OK
}

func ravel(y api.Array) (api.Array, api.Errno) {
	return api.Array{Shape: []int{len(y.Atoms)}, Atoms: copied(y.Atoms)}, api.OK
}

func tabulate(y api.Array) (api.Array, api.Errno) {
	// Not the atoms parted among the items, since there may be none. (A part of a shape that may be is one itself.)
	width, _ := shape.Size(itemShape(y))
	return api.Array{Shape: []int{arr.Items(y), width}, Atoms: copied(y.Atoms)}, api.OK
}

func itemize(y api.Array) (api.Array, api.Errno) {
	if len(y.Shape) == api.MaxRank {
		return api.Array{}, api.ErrSize
	}
	return api.Array{Shape: slices.Concat([]int{1}, y.Shape), Atoms: copied(y.Atoms)}, api.OK
}

func first(y api.Array) (api.Array, api.Errno) { return itemOrZeros(y, 0) }

func last(y api.Array) (api.Array, api.Errno) { return itemOrZeros(y, -1) }

// itemOrZeros gives an item; of no items the zeros of one.
func itemOrZeros(y api.Array, i int) (api.Array, api.Errno) {
	if arr.Items(y) == 0 {
		return arr.Fill(itemShape(y), 0)
	}
	return arr.Item(y, i)
}

func behead(y api.Array) (api.Array, api.Errno) {
	n := arr.Items(y)
	return cell.Part(y, min(1, n), max(0, n-1))
}

func curtail(y api.Array) (api.Array, api.Errno) {
	return cell.Part(y, 0, max(0, arr.Items(y)-1))
}

func reverse(y api.Array) (api.Array, api.Errno) {
	axes := axesOf(y.Shape)
	if len(axes) > 0 {
		axes[0] = axes[0].back()
	}
	return gather(y, axes)
}

func transpose(y api.Array) (api.Array, api.Errno) {
	axes := axesOf(y.Shape)
	slices.Reverse(axes)
	return gather(y, axes)
}

func itself(y api.Array) (api.Array, api.Errno) {
	return api.Array{Shape: copied(y.Shape), Atoms: copied(y.Atoms)}, api.OK
}

// copied gives a list of its own; of no elements nil, since even an empty piece of a list would hold on to its memory.
func copied[N int | int64](list []N) []N { return append([]N(nil), list...) }

// itemShape tells an item's shape; a scalar's has no lengths.
func itemShape(y api.Array) []int {
	_, item := shape.Split(y.Shape, -1)
	return item
}
