package mold

import (
	"slices"

	"abacus/api"
	"abacus/shape"
)

// none stands for a place that an array does not have.
const none = -1

// axis is one axis of an answer whose atoms are those of another array, here called y.
type axis struct {
	length int             // of the answer's axis
	width  int             // of y's axis from which it comes
	step   int             // how far apart two atoms of y are that are neighbours along that axis
	from   func(i int) int // y's index for the answer's index i; it may be one that y does not have
}

// axesOf tells the axes of an array of that shape, each as it is.
func axesOf(s []int) []axis {
	axes := make([]axis, len(s))
	step := 1
	for i, length := range slices.Backward(s) {
		axes[i] = axis{length: length, width: length, step: step, from: shifted(0)}
		step *= length
	}
	return axes
}

// shifted is the rule by which each index comes from the one that lies by places behind it.
func shifted(by int) func(i int) int {
	return func(i int) int { return i + by }
}

// take has n places of the axis from the front, or |n| from behind.
func (a axis) take(n int64) axis {
	a.length = size(n)
	if n < 0 {
		a.from = shifted(a.width - a.length)
	}
	return a
}

// drop leaves n places of the axis away at the front, or |n| behind.
func (a axis) drop(n int64) axis {
	gone := min(size(n), a.width)
	a.length = a.width - gone
	if n > 0 {
		a.from = shifted(gone)
	}
	return a
}

// turn has at each place what lies n places behind it, going round.
func (a axis) turn(n int64) axis {
	if a.width == 0 {
		return a
	}
	// Of n only its remainder is added, since i + n might wrap round.
	by := int(n % int64(a.width))
	a.from = func(i int) int { return (i + by + a.width) % a.width }
	return a
}

// back has the places of the axis the last one first.
func (a axis) back() axis {
	a.from = func(i int) int { return a.width - 1 - i }
	return a
}

// size tells a number without its sign as a length; all beyond MaxAtoms are one, since they are refused alike and the greatest of them is no int.
func size(n int64) int {
	without := uint64(n)
	if n < 0 {
		without = -without
	}
	return int(min(without, api.MaxAtoms+1))
}

// gather gives the array with these axes of y's atoms, and 0 where y has none.
func gather(y api.Array, axes []axis) (api.Array, api.Errno) {
	s := make([]int, len(axes))
	for i, a := range axes {
		s[i] = a.length
	}
	if e := shape.May(s); e != api.OK {
		return api.Array{}, e
	}
	places := []int{0}
	for _, a := range axes {
		places = a.below(places)
	}
	atoms := make([]int64, len(places))
	for i, place := range places {
		if place != none {
			atoms[i] = y.Atoms[place]
		}
	}
	return api.Array{Shape: s, Atoms: atoms}, api.OK
}

// below tells the places of y that lie along the axis from each of these places on.
func (a axis) below(places []int) []int {
	out := make([]int, 0, len(places)*a.length)
	for _, place := range places {
		for i := range a.length {
			out = append(out, a.along(place, i))
		}
	}
	return out
}

// along tells the place of y that the axis has at i, from a place on.
func (a axis) along(place, i int) int {
	from := a.from(i)
	if place == none || from < 0 || from >= a.width {
		return none
	}
	return place + from*a.step
}
