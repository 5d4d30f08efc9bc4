package shape

import (
	"slices"
	"testing"

	"abacus/api"
)

// exactCover tells the common shape of some from their words alone: all lengths of an axis at a time, and of all that come first anew each time.
func exactCover(ss [][]int) ([]int, api.Errno) {
	if len(ss) == 0 {
		return nil, api.ErrArg
	}
	var common []int
	for i, s := range ss {
		if e := exactMay(s); e != api.OK {
			return nil, e
		}
		common = greatest(ss[:i+1])
		if exactMay(common) != api.OK {
			return nil, api.ErrSize
		}
	}
	return common, api.OK
}

func greatest(ss [][]int) []int {
	rank := 0
	for _, s := range ss {
		rank = max(rank, len(s))
	}
	common := make([]int, rank)
	for _, s := range ss {
		for axis, length := range slices.Concat(times(rank-len(s), 1), s) {
			common[axis] = max(common[axis], length)
		}
	}
	return common
}

func TestCoverExamples(t *testing.T) {
	checkCover(t, list(2, 3), api.OK, list(3), list(2, 1))
	checkCover(t, list(2), api.OK, list(0), list(2))
	checkCover(t, nil, api.OK, nil)
	checkCover(t, list(1), api.OK, nil, list(0))
	checkCover(t, nil, api.ErrArg)
	checkCover(t, nil, api.ErrSize, list(64, 1), list(65))
	checkCover(t, nil, api.ErrSize, list(64, 1), list(1, 65), list(-1))
}

func TestCoverOnesAhead(t *testing.T) {
	checkCover(t, list(1), api.OK, list(0), nil)
	checkCover(t, list(0), api.OK, list(0))
	checkCover(t, list(0), api.OK, list(0), list(0))
	checkCover(t, list(1, 5), api.OK, list(0, 5), list(3))
	checkCover(t, list(1, 5), api.OK, list(3), list(0, 5))
	checkCover(t, list(0, 5), api.OK, list(0, 5), list(0, 3))
	checkCover(t, list(1, 1, 4), api.OK, list(0, 0, 4), nil)
	checkCover(t, list(1, 2, 4), api.OK, list(0, 0, 4), list(2, 2))
	checkCover(t, times(8, 1), api.OK, nil, times(8, 0))
	checkCover(t, append(times(7, 1), 4096), api.OK, times(8, 0), list(4096))
}

func TestCoverErrors(t *testing.T) {
	checkCover(t, nil, api.ErrArg, [][]int{}...)
	checkCover(t, nil, api.ErrArg, list(-1))
	checkCover(t, nil, api.ErrArg, list(64, 1), list(-1), list(1, 65))
	checkCover(t, nil, api.ErrArg, list(1, 2), list(5000, -1))
	checkCover(t, nil, api.ErrSize, list(5000), list(-1))
	checkCover(t, nil, api.ErrSize, times(9, 1), list(-1))
	checkCover(t, nil, api.ErrArg, list(-1), times(9, 1))
	checkCover(t, nil, api.ErrSize, list(2), times(9, 1))
	checkCover(t, nil, api.ErrSize, list(0, 4096), list(2, 1), list(-1))
	checkCover(t, nil, api.ErrSize, list(4096, 0), list(0, 2))
	checkCover(t, list(64, 64), api.OK, list(64, 1), list(1, 64), list(64))
	checkCover(t, nil, api.ErrSize, list(64, 1), list(1, 64), list(65))
	checkCover(t, nil, api.ErrSize, list(1<<62, 4))
	checkCover(t, nil, api.ErrSize, list(4096, 1), list(4096))
	checkCover(t, nil, api.ErrSize, list(16, 1, 1, 1), list(16, 1, 1), list(16, 1), list(2))
}

func TestCover(t *testing.T) {
	all := shapes()
	for _, a := range all {
		want, e := exactCover([][]int{a})
		checkCover(t, want, e, a)
		for _, b := range all {
			want, e := exactCover([][]int{a, b})
			checkCover(t, want, e, a, b)
			for k := 0; k < len(all); k += 5 {
				want, e := exactCover([][]int{a, all[k], b})
				checkCover(t, want, e, a, all[k], b)
			}
		}
	}
}

// TestCoverMany: many shapes, and a wrong one at the very end.
func TestCoverMany(t *testing.T) {
	var ss [][]int
	for n := range 10000 {
		ss = append(ss, list(n%7, n%11))
	}
	checkCover(t, list(6, 10), api.OK, ss...)
	checkCover(t, nil, api.ErrArg, append(ss, list(-1))...)
	checkCover(t, nil, api.ErrSize, append(ss, list(411, 1))...)
	checkCover(t, list(409, 10), api.OK, append(ss, list(409, 1))...)
}
