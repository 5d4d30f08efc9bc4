package digit

import (
	"math/bits"
	"slices"

	"abacus/api"
	"abacus/arr"
	"abacus/num"
	"abacus/shape"
)

func fromBinary(y api.Array) (api.Array, api.Errno) { return fromBase(arr.Scalar(2), y) }

// fromBase gives the number whose digits in the bases x are y.
func fromBase(x, y api.Array) (api.Array, api.Errno) {
	if len(x.Shape) > 0 && len(y.Shape) > 0 && len(x.Atoms) != len(y.Atoms) {
		return api.Array{}, api.ErrLength
	}
	bases, digits := taken(x, len(y.Atoms)), taken(y, len(x.Atoms))
	r := int64(0)
	for i, base := range bases {
		product, fits := num.Mul(r, base)
		if !fits {
			return api.Array{}, api.ErrOver
		}
		if r, fits = num.Add(product, digits[i]); !fits {
			return api.Array{}, api.ErrOver
		}
	}
	return arr.Scalar(r), api.OK
}

// toBase gives the digits of y's atom in the bases x.
func toBase(x, y api.Array) (api.Array, api.Errno) {
	digits := make([]int64, len(x.Atoms))
	r := y.Atoms[0]
	for i, base := range slices.Backward(x.Atoms) {
		quotient, left, e := divided(r, base)
		if e != api.OK {
			return api.Array{}, e
		}
		digits[i], r = left, quotient
	}
	return api.Array{Shape: slices.Concat(x.Shape), Atoms: digits}, api.OK
}

// divided tells n divided by a base, rounded down, and what is left; by 0 that is all of it.
func divided(n, base int64) (quotient, left int64, e api.Errno) {
	if base == 0 {
		return 0, n, api.OK
	}
	quotient, e = num.Dyad(api.PDiv, n, base)
	left, _ = num.Dyad(api.PRes, base, n)
	return quotient, left, e
}

// toBinary gives the binary digits of each atom, of all as many as the one with the most has.
func toBinary(y api.Array) (api.Array, api.Errno) {
	width := 0
	for _, n := range y.Atoms {
		width = max(width, binaryDigits(n))
	}
	s := slices.Concat(y.Shape, []int{width})
	size, e := shape.Size(s)
	if e != api.OK {
		return api.Array{}, e
	}
	digits := make([]int64, 0, size)
	for _, n := range y.Atoms {
		for behind := width - 1; behind >= 0; behind-- {
			digits = append(digits, n>>behind&1)
		}
	}
	return api.Array{Shape: s, Atoms: digits}, api.OK
}

// binaryDigits tells how many a number has without its sign.
func binaryDigits(n int64) int {
	// Not num's PRes: it has none for the least number.
	without := uint64(n)
	if n < 0 {
		without = -without
	}
	return max(1, bits.Len64(without))
}
