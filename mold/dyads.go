package mold

import (
	"slices"

	"abacus/api"
	"abacus/arr"
	"abacus/cell"
	"abacus/shape"
)

func left(x, _ api.Array) (api.Array, api.Errno) { return itself(x) }

func right(_, y api.Array) (api.Array, api.Errno) { return itself(y) }

func reshape(x, y api.Array) (api.Array, api.Errno) {
	ahead := make([]int, len(x.Atoms))
	for i, n := range x.Atoms {
		if n < 0 {
			return api.Array{}, api.ErrDomain
		}
		ahead[i] = int(n)
	}
	a, e := arr.Fill(slices.Concat(ahead, itemShape(y)), 0)
	if e != api.OK {
		return api.Array{}, e
	}
	if !slices.Contains(ahead, 0) && arr.Items(y) == 0 {
		return api.Array{}, api.ErrLength
	}
	for i := range a.Atoms {
		a.Atoms[i] = y.Atoms[i%len(y.Atoms)]
	}
	return a, api.OK
}

func take(x, y api.Array) (api.Array, api.Errno) { return cut(x, y, axis.take) }

func drop(x, y api.Array) (api.Array, api.Errno) { return cut(x, y, axis.drop) }

// cut changes an axis of y for each number of x; a scalar has as many axes as it takes.
func cut(x, y api.Array, change func(a axis, n int64) axis) (api.Array, api.Errno) {
	s := y.Shape
	if len(s) == 0 {
		s = slices.Repeat([]int{1}, len(x.Atoms))
	}
	return alongAxes(x, y, axesOf(s), change)
}

func rotate(x, y api.Array) (api.Array, api.Errno) {
	if len(y.Shape) > 0 {
		return alongAxes(x, y, axesOf(y.Shape), axis.turn)
	}
	if len(x.Atoms) > 1 {
		return api.Array{}, api.ErrLength
	}
	return itself(y)
}

// alongAxes gives y with one of its axes changed for each number of x, from the first one on.
func alongAxes(x, y api.Array, axes []axis, change func(a axis, n int64) axis) (api.Array, api.Errno) {
	if len(x.Atoms) > len(axes) {
		return api.Array{}, api.ErrLength
	}
	for i, n := range x.Atoms {
		axes[i] = change(axes[i], n)
	}
	return gather(y, axes)
}

// arrange puts the axes of y that x names behind the others.
func arrange(x, y api.Array) (api.Array, api.Errno) {
	axes := axesOf(y.Shape)
	named := make([]bool, len(axes))
	var behind, order []axis
	for _, n := range x.Atoms {
		rank := int64(len(axes))
		if n < -rank || n >= rank {
			return api.Array{}, api.ErrIndex
		}
		if n < 0 {
			n += rank
		}
		if named[n] {
			return api.Array{}, api.ErrDomain
		}
		named[n] = true
		behind = append(behind, axes[n])
	}
	for i, a := range axes {
		if !named[i] {
			order = append(order, a)
		}
	}
	return gather(y, append(order, behind...))
}

// join gives x's items and, behind them, y's.
func join(x, y api.Array) (api.Array, api.Errno) {
	x, y = spread(x, itemShape(y)), spread(y, itemShape(x))
	rank := max(1, len(x.Shape), len(y.Shape))
	s, t := ranked(x.Shape, rank), ranked(y.Shape, rank)
	item, e := shape.Cover(s[1:], t[1:])
	if e != api.OK {
		return api.Array{}, e
	}
	whole := slices.Concat([]int{s[0] + t[0]}, item)
	if e := shape.May(whole); e != api.OK {
		return api.Array{}, e
	}
	return api.Array{Shape: whole, Atoms: slices.Concat(laid(x, s, item), laid(y, t, item))}, api.OK
}

// spread lays a scalar out over a shape that may be; any other array is as it is.
func spread(a api.Array, s []int) api.Array {
	if len(a.Shape) > 0 {
		return a
	}
	out, _ := arr.Fill(s, a.Atoms[0])
	return out
}

// ranked puts lengths of 1 ahead of a shape up to a rank.
func ranked(s []int, rank int) []int {
	return slices.Concat(slices.Repeat([]int{1}, rank-len(s)), s)
}

// laid tells the atoms of an array, taken as one of shape s, each item laid into a greater one with zeros beside it.
func laid(a api.Array, s, item []int) []int64 {
	axes := axesOf(s)
	for i, length := range item {
		axes[i+1].length = length
	}
	// It is a part of an array that may be, so it is not refused.
	out, _ := gather(a, axes)
	return out.Atoms
}

// stitch joins item and item.
func stitch(x, y api.Array) (api.Array, api.Errno) {
	pairs, e := cell.Two(x, y, -1, -1)
	if e != api.OK {
		return api.Array{}, e
	}
	if len(pairs.Frame) == 0 {
		return join(x, y)
	}
	places := pairs.Frame[0]
	if places == 0 {
		like, e := join(pairs.LikeLeft, pairs.LikeRight)
		return cell.Empty(pairs.Frame, like, e == api.OK)
	}
	together, e := cell.Begin(pairs.Frame)
	for i := 0; i < places && e == api.OK; i++ {
		// A scalar is one cell beside all of the other side.
		e = addJoined(together, pairs.Left[i%len(pairs.Left)], pairs.Right[i%len(pairs.Right)])
	}
	if e != api.OK {
		return api.Array{}, e
	}
	return together.Done()
}

// addJoined gives a joiner the items of x and, behind them, y's.
func addJoined(together *cell.Joiner, x, y api.Array) api.Errno {
	a, e := join(x, y)
	if e != api.OK {
		return e
	}
	return together.Add(a)
}

// laminate makes x and y the two items of one array.
func laminate(x, y api.Array) (api.Array, api.Errno) {
	return cell.Join([]int{2}, spread(x, y.Shape), spread(y, x.Shape))
}
