package cell

import (
	"slices"

	"abacus/api"
	"abacus/arr"
	"abacus/shape"
)

// Joiner joins arrays under a frame, as they come.
type Joiner struct {
	frame  []int
	common []int // the common shape of those given, if there are any
	given  []api.Array
}

// Begin gives a joiner.
func Begin(frame []int) (*Joiner, api.Errno) {
	places, e := shape.Size(frame)
	if e != api.OK {
		return nil, e
	}
	if places == 0 {
		return nil, api.ErrLength
	}
	return &Joiner{frame: slices.Clone(frame)}, api.OK
}

// Add takes the next array.
func (j *Joiner) Add(a api.Array) api.Errno {
	if len(j.given) == j.places() {
		return api.ErrFull
	}
	if arr.May(a) != api.OK {
		return api.ErrArg
	}
	common, e := j.cover(a.Shape)
	if e != api.OK || shape.May(slices.Concat(j.frame, common)) != api.OK {
		return api.ErrSize
	}
	j.common = common
	j.given = append(j.given, api.Array{Shape: slices.Clone(a.Shape), Atoms: slices.Clone(a.Atoms)})
	return api.OK
}

// Done gives what they are together.
func (j *Joiner) Done() (api.Array, api.Errno) {
	if len(j.given) < j.places() {
		return api.Array{}, api.ErrLength
	}
	// Add has seen to it that this may be.
	out, _ := arr.Fill(slices.Concat(j.frame, j.common), 0)
	size := len(out.Atoms) / j.places()
	for i, a := range j.given {
		lay(out.Atoms[i*size:(i+1)*size], j.common, a)
	}
	return out, api.OK
}

// Join joins arrays under a frame.
func Join(frame []int, cells ...api.Array) (api.Array, api.Errno) {
	j, e := Begin(frame)
	if e != api.OK {
		return api.Array{}, e
	}
	for _, a := range cells {
		if e := j.Add(a); e != api.OK {
			return api.Array{}, e
		}
	}
	return j.Done()
}

// places tells how many the frame has; there is one at least.
func (j *Joiner) places() int {
	places, _ := shape.Size(j.frame)
	return places
}

// cover tells the common shape of those given and one more.
func (j *Joiner) cover(s []int) ([]int, api.Errno) {
	// No shape stands for none given: even a scalar's puts a length of 1 ahead of others.
	if len(j.given) == 0 {
		return shape.Cover(s)
	}
	return shape.Cover(j.common, s)
}

// lay copies an array's atoms to the beginning of each axis of the common shape.
func lay(into []int64, common []int, a api.Array) {
	at := make([]int, len(common))
	behind := at[len(common)-len(a.Shape):]
	for place, indices := range shape.All(a.Shape) {
		copy(behind, indices)
		target, _ := shape.Place(common, at)
		into[target] = a.Atoms[place]
	}
}
