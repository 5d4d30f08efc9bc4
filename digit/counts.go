package digit

import (
	"slices"

	"abacus/api"
	"abacus/arr"
	"abacus/num"
	"abacus/shape"
)

// count gives 0, 1, 2 .. in the shape of y's numbers, turned round along each axis whose number is below 0.
func count(y api.Array) (api.Array, api.Errno) {
	s := make([]int, len(y.Atoms))
	for i, n := range y.Atoms {
		length, e := num.Monad(api.PRes, n)
		if e != api.OK {
			return api.Array{}, api.ErrSize
		}
		s[i] = int(length)
	}
	if e := shape.May(s); e != api.OK {
		return api.Array{}, e
	}
	places := []int64{0}
	for _, n := range y.Atoms {
		places = below(places, n)
	}
	return api.Array{Shape: s, Atoms: places}, api.OK
}

// below tells the places that lie along one more axis from each of these on; the last one first, if its number is below 0.
func below(places []int64, n int64) []int64 {
	length, from, step := n, int64(0), int64(1)
	if n < 0 {
		length, from, step = -n, -n-1, -1
	}
	out := make([]int64, 0, len(places)*int(length))
	for _, place := range places {
		for i := range length {
			out = append(out, place*length+from+i*step)
		}
	}
	return out
}

// where gives the place of each number as often as the number says: it copies the places.
func where(y api.Array) (api.Array, api.Errno) {
	n := len(y.Atoms)
	return copies(y, api.Array{Shape: []int{n}, Atoms: below([]int64{0}, int64(n))})
}

// copies gives y's items, each as often as its number says.
func copies(x, y api.Array) (api.Array, api.Errno) {
	rounds := 1
	if len(x.Shape) == 0 {
		rounds = arr.Items(y)
	} else if len(y.Shape) > 0 && len(x.Atoms) != arr.Items(y) {
		return api.Array{}, api.ErrLength
	}
	total, e := inAll(x.Atoms, rounds)
	if e != api.OK {
		return api.Array{}, e
	}
	_, item := shape.Split(y.Shape, -1)
	s := slices.Concat([]int{total}, item)
	if e := shape.May(s); e != api.OK {
		return api.Array{}, e
	}
	return api.Array{Shape: s, Atoms: repeated(taken(y, len(x.Atoms)), taken(x, arr.Items(y)))}, api.OK
}

// inAll tells how many items these numbers ask for, gone through so many rounds; ErrSize, if there are more than an array has.
func inAll(numbers []int64, rounds int) (int, api.Errno) {
	// Ahead of the counting and without regard to the rounds: a number below 0 is refused behind one too many, and beside no items, too.
	if slices.ContainsFunc(numbers, func(n int64) bool { return n < 0 }) {
		return 0, api.ErrDomain
	}
	total, e := int64(0), api.OK
counting:
	for range rounds {
		for _, n := range numbers {
			// Held against what is left, since the sum might wrap round.
			if n > api.MaxAtoms-total {
				total, e = 0, api.ErrSize
				break counting
			}
			total += n
		}
	}
	return int(total), e
}

// taken tells an array's atoms; those of a scalar n times over.
func taken(a api.Array, n int) []int64 {
	if len(a.Shape) > 0 {
		return a.Atoms
	}
	return slices.Repeat(a.Atoms, n)
}

// repeated parts atoms evenly into as many items as there are numbers, and gives each item as often as its number says.
func repeated(atoms, numbers []int64) []int64 {
	var out []int64
	for i, n := range numbers {
		width := len(atoms) / len(numbers)
		out = append(out, slices.Repeat(atoms[i*width:(i+1)*width], int(n))...)
	}
	return out
}
