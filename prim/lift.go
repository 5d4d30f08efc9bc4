package prim

import (
	"abacus/api"
	"abacus/cell"
	"abacus/shape"
)

// liftOne does to all cells of an array what do does to one of them.
func liftOne(y api.Array, rank int, do func(y api.Array) (api.Array, api.Errno)) (api.Array, api.Errno) {
	// Package atom's rows alone have the rank 0, and it goes over the atoms itself, with the same answers.
	if rank == 0 || whole(y, rank) {
		return do(y)
	}
	c, e := cell.One(y, rank)
	if e != api.OK {
		return api.Array{}, e
	}
	if len(c.Cells) == 0 {
		// No primitive is refused by a limit, so a trial's error is never told.
		tried, e := do(c.Like)
		return cell.Empty(c.Frame, tried, e == api.OK)
	}
	return joined(c.Frame, len(c.Cells), func(place int) (api.Array, api.Errno) { return do(c.Cells[place]) })
}

// liftTwo does to all pairs of cells of two arrays what do does to one pair.
func liftTwo(x, y api.Array, left, right int, do func(x, y api.Array) (api.Array, api.Errno)) (api.Array, api.Errno) {
	// As in liftOne: both ranks are 0 in package atom's rows alone.
	if left == 0 && right == 0 || whole(x, left) && whole(y, right) {
		return do(x, y)
	}
	p, e := cell.Two(x, y, left, right)
	if e != api.OK {
		return api.Array{}, e
	}
	places, e := shape.Size(p.Frame)
	if e != api.OK {
		return api.Array{}, e
	}
	if places == 0 {
		tried, e := do(p.LikeLeft, p.LikeRight)
		return cell.Empty(p.Frame, tried, e == api.OK)
	}
	ofLeft, ofRight := places/len(p.Left), places/len(p.Right)
	return joined(p.Frame, places, func(place int) (api.Array, api.Errno) {
		return do(p.Left[place/ofLeft], p.Right[place/ofRight])
	})
}

// whole tells whether an array is its one cell, its frame being empty. (No rank of the catalogue is below 0.)
func whole(y api.Array, rank int) bool { return len(y.Shape) <= rank }

// joined joins what is done at each place of a frame as it comes, so that nothing is done behind a joining that fails.
func joined(frame []int, places int, do func(place int) (api.Array, api.Errno)) (api.Array, api.Errno) {
	j, e := cell.Begin(frame)
	if e != api.OK {
		return api.Array{}, e
	}
	for place := range places {
		a, e := do(place)
		if e != api.OK {
			return api.Array{}, e
		}
		if e := j.Add(a); e != api.OK {
			return api.Array{}, e
		}
	}
	return j.Done()
}
