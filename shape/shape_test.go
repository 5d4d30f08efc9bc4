package shape

import (
	"math"
	"math/big"
	"slices"
	"testing"

	"abacus/api"
)

const (
	least = math.MinInt
	most  = math.MaxInt
)

func list(n ...int) []int { return n }

// times is a shape of n equal lengths.
func times(n, length int) []int { return slices.Repeat(list(length), n) }

// shapes are ordinary ones, edges, and lists that are none.
func shapes() [][]int {
	return [][]int{
		nil, {}, {0}, {1}, {2}, {5}, {64}, {4095}, {4096}, {4097}, {most}, {-1}, {least},
		{2, 3}, {3, 2}, {1, 5}, {5, 1}, {0, 0}, {0, 4096}, {4096, 0}, {0, 4097}, {4097, 0}, {0, 5000}, {64, 64}, {64, 65}, {65, 64}, {63, 65}, {4096, 1}, {1, 4096}, {4096, 2}, {2, 4096},
		{1 << 62, 4}, {1 << 32, 1 << 32}, {4, 1 << 62}, {1 << 62, 2, 2}, {most, most}, {most, 0}, {0, most, most}, {1 << 33, 1 << 31, 1}, {1 << 16, 1 << 16, 1 << 16, 1 << 16}, {least, least}, {-1, -1}, {-2, -3}, {1, -1}, {-1, 0}, {0, -1}, {5000, -1}, {-1, 5000},
		{2, 3, 4}, {2, 0, 4}, {0, 3, 4}, {2, 3, 0}, {64, 0, 64}, {64, 0, 65}, {16, 16, 16}, {16, 16, 17}, {16, 0, 16, 0, 16}, {1, 1, 1, 1, 3}, {3, 1, 1, 1, 2}, {2, 1, 3, 1, 2},
		times(8, 1), times(9, 1), times(8, 0), times(9, 0), times(8, 2), times(7, 3), times(8, 3), times(9, 2), times(64, 2), times(65, 2), append(times(8, 1), -1), append(times(9, 1), -1), append(times(7, 2), 32), append(times(7, 2), 33), append(times(7, 0), 4096), append(times(7, 0), 4097), times(100, 0),
	}
}

// exactMay and exactSize reckon without a bound, so nothing can wrap round.
func exactMay(s []int) api.Errno {
	if len(s) > 0 && slices.Min(s) < 0 {
		return api.ErrArg
	}
	product := big.NewInt(1)
	for _, length := range s {
		product.Mul(product, big.NewInt(int64(max(length, 1))))
	}
	if len(s) > 8 || product.Cmp(big.NewInt(4096)) > 0 {
		return api.ErrSize
	}
	return api.OK
}

func exactSize(s []int) int {
	size := 0
	for range counted(s) {
		size++
	}
	return size
}

// counted is all indices of a shape that may be, in row order, told by counting like a clock with a wheel an axis.
func counted(s []int) [][]int {
	if slices.Contains(s, 0) {
		return nil
	}
	var out [][]int
	at := make([]int, len(s))
	for {
		out = append(out, slices.Clone(at))
		axis := len(s) - 1
		for axis >= 0 && at[axis] == s[axis]-1 {
			at[axis] = 0
			axis--
		}
		if axis < 0 {
			return out
		}
		at[axis]++
	}
}

func checkMay(t *testing.T, s []int, want api.Errno) {
	t.Helper()
	if e := May(s); e != want {
		t.Errorf("P2.1: May(%v): %v; want %v", s, e, want)
	}
}

func checkSize(t *testing.T, s []int, want int, e api.Errno) {
	t.Helper()
	if n, got := Size(s); n != want || got != e {
		t.Errorf("P2.2: Size(%v): %d, %v; want %d, %v", s, n, got, want, e)
	}
}

func checkPlace(t *testing.T, s, at []int, want int, e api.Errno) {
	t.Helper()
	if n, got := Place(s, at); n != want || got != e {
		t.Errorf("P2.3: Place(%v, %v): %d, %v; want %d, %v", s, at, n, got, want, e)
	}
}

func checkAt(t *testing.T, s []int, place int, want []int, e api.Errno) {
	t.Helper()
	if at, got := At(s, place); !slices.Equal(at, want) || got != e {
		t.Errorf("P2.4: At(%v, %d): %v, %v; want %v, %v", s, place, at, got, want, e)
	}
}

func checkSplit(t *testing.T, s []int, rank int, frame, cell []int) {
	t.Helper()
	if f, c := Split(s, rank); !slices.Equal(f, frame) || !slices.Equal(c, cell) {
		t.Errorf("P2.5: Split(%v, %d): %v and %v; want %v and %v", s, rank, f, c, frame, cell)
	}
}

func checkAgree(t *testing.T, a, b, want []int, e api.Errno) {
	t.Helper()
	if s, got := Agree(a, b); !slices.Equal(s, want) || got != e {
		t.Errorf("P2.6: Agree(%v, %v): %v, %v; want %v, %v", a, b, s, got, want, e)
	}
}

func checkCover(t *testing.T, want []int, e api.Errno, ss ...[]int) {
	t.Helper()
	if s, got := Cover(ss...); !slices.Equal(s, want) || got != e {
		t.Errorf("P2.7: Cover(%v): %v, %v; want %v, %v", ss, s, got, want, e)
	}
}

func TestMayExamples(t *testing.T) {
	checkMay(t, nil, api.OK)
	checkMay(t, list(), api.OK)
	checkMay(t, list(64, 64), api.OK)
	checkMay(t, list(64, 65), api.ErrSize)
	checkMay(t, list(0, 5000), api.ErrSize)
	checkMay(t, list(0, 4096), api.OK)
	checkMay(t, list(1, -1), api.ErrArg)
	checkMay(t, times(9, 1), api.ErrSize)
	checkMay(t, list(1<<62, 4), api.ErrSize)
}

func TestMay(t *testing.T) {
	for _, s := range shapes() {
		checkMay(t, s, exactMay(s))
	}
	for a := -2; a <= 130; a++ {
		for b := -2; b <= 70; b++ {
			checkMay(t, list(a, b), exactMay(list(a, b)))
			checkMay(t, list(a, 0, b, 1), exactMay(list(a, 0, b, 1)))
		}
	}
}

// TestMayWrapsNowhere: products that are 0, 1 or little, were they reckoned by 64 bits alone.
func TestMayWrapsNowhere(t *testing.T) {
	for shift := 1; shift < 63; shift++ {
		checkMay(t, list(1<<shift, 1<<(64-shift-1), 2), api.ErrSize)
		checkMay(t, list(2, 1<<shift, 0, 1<<(64-shift-1)), api.ErrSize)
	}
	// 3 times 2^64, and 1.
	checkMay(t, list(7, 7905747460161236407), api.ErrSize)
	checkMay(t, list(7905747460161236407, 0, 7), api.ErrSize)
	checkMay(t, list(1<<31, 1<<31, 4), api.ErrSize)
}

// TestMayOrder: a length below 0 is told ahead of all else, wherever it stands.
func TestMayOrder(t *testing.T) {
	for _, below := range []int{-1, -4096, least} {
		for place := range 12 {
			s := times(12, 5000)
			s[place] = below
			checkMay(t, s, api.ErrArg)
			checkSize(t, s, 0, api.ErrArg)
			checkPlace(t, s, nil, 0, api.ErrArg)
			checkAt(t, s, -1, nil, api.ErrArg)
			checkCover(t, nil, api.ErrArg, s)
		}
	}
}

func TestSize(t *testing.T) {
	checkSize(t, nil, 1, api.OK)
	checkSize(t, list(2, 3, 4), 24, api.OK)
	checkSize(t, list(2, 0, 4), 0, api.OK)
	for _, s := range shapes() {
		want, e := 0, exactMay(s)
		if e == api.OK {
			want = exactSize(s)
		}
		checkSize(t, s, want, e)
	}
}

func TestPlaceExamples(t *testing.T) {
	checkPlace(t, list(2, 3, 4), list(1, 2, 3), 23, api.OK)
	checkPlace(t, list(2, 3), list(1), 0, api.ErrRank)
	checkPlace(t, list(2, 3), list(0, 3), 0, api.ErrIndex)
	checkPlace(t, nil, nil, 0, api.OK)
}

func TestPlaceWrong(t *testing.T) {
	checkPlace(t, nil, list(0), 0, api.ErrRank)
	checkPlace(t, list(2, 3), nil, 0, api.ErrRank)
	checkPlace(t, list(2, 3), list(1, 1, 0), 0, api.ErrRank)
	checkPlace(t, list(2, 3), list(-1), 0, api.ErrRank)
	checkPlace(t, list(2, 3), list(9, 9, 9), 0, api.ErrRank)
	checkPlace(t, list(0, 3), list(0), 0, api.ErrRank)
	for _, wrong := range []int{-1, 3, 4, least, most} {
		checkPlace(t, list(3, 3, 3), list(wrong, 1, 1), 0, api.ErrIndex)
		checkPlace(t, list(3, 3, 3), list(1, wrong, 1), 0, api.ErrIndex)
		checkPlace(t, list(3, 3, 3), list(1, 1, wrong), 0, api.ErrIndex)
	}
	checkPlace(t, list(0), list(0), 0, api.ErrIndex)
	checkPlace(t, list(2, 0), list(0, 0), 0, api.ErrIndex)
	checkPlace(t, list(0, 2), list(0, 0), 0, api.ErrIndex)
	checkPlace(t, list(64, 65), list(0), 0, api.ErrSize)
	checkPlace(t, list(64, 65), list(-1, 99), 0, api.ErrSize)
	checkPlace(t, list(-2, 3), list(5, 5), 0, api.ErrArg)
	checkPlace(t, times(9, 1), times(9, 0), 0, api.ErrSize)
}

func TestAtExamples(t *testing.T) {
	checkAt(t, list(2, 3, 4), 23, list(1, 2, 3), api.OK)
	checkAt(t, list(2, 3, 4), 24, nil, api.ErrIndex)
	checkAt(t, list(2, 0), 0, nil, api.ErrIndex)
	checkAt(t, nil, 0, nil, api.OK)
}

func TestAtWrong(t *testing.T) {
	for _, s := range [][]int{nil, {0}, {1}, {2, 3}, {0, 4096}, {64, 64}, times(8, 2)} {
		for _, place := range []int{-1, least, exactSize(s), exactSize(s) + 1, 1 << 32, most} {
			checkAt(t, s, place, nil, api.ErrIndex)
		}
	}
	checkAt(t, list(4097), 0, nil, api.ErrSize)
	checkAt(t, list(64, 65), -1, nil, api.ErrSize)
	checkAt(t, list(0, -1), 0, nil, api.ErrArg)
	checkAt(t, times(9, 1), 0, nil, api.ErrSize)
}

// TestPlaces: At and Place of all places of all shapes, in row order.
func TestPlaces(t *testing.T) {
	for _, s := range shapes() {
		if exactMay(s) != api.OK {
			continue
		}
		for place, at := range counted(s) {
			checkAt(t, s, place, at, api.OK)
			checkPlace(t, s, at, place, api.OK)
		}
	}
}

func TestSplitExamples(t *testing.T) {
	checkSplit(t, list(2, 3, 4), 1, list(2, 3), list(4))
	checkSplit(t, list(2, 3, 4), -1, list(2), list(3, 4))
	checkSplit(t, list(2, 3, 4), 64, nil, list(2, 3, 4))
	checkSplit(t, list(2, 3, 4), -9, list(2, 3, 4), nil)
}

func TestSplit(t *testing.T) {
	s := list(2, 3, 4)
	for _, c := range []struct{ rank, ahead int }{
		{0, 3}, {1, 2}, {2, 1}, {3, 0}, {4, 0}, {8, 0}, {most, 0}, {-1, 1}, {-2, 2}, {-3, 3}, {-4, 3}, {-64, 3}, {least, 3}, {least + 1, 3}, {least + 3, 3},
	} {
		checkSplit(t, s, c.rank, s[:c.ahead], s[c.ahead:])
	}
	for _, rank := range []int{0, 1, -1, 64, least, most} {
		checkSplit(t, nil, rank, nil, nil)
	}
}

// TestSplitWhatever: lists that are no shape that may be are cut, too.
func TestSplitWhatever(t *testing.T) {
	for _, s := range shapes() {
		for rank := -len(s) - 2; rank <= len(s)+2; rank++ {
			cell := min(rank, len(s))
			if rank < 0 {
				cell = max(0, len(s)+rank)
			}
			checkSplit(t, s, rank, s[:len(s)-cell], s[len(s)-cell:])
		}
	}
}

func TestAgree(t *testing.T) {
	checkAgree(t, list(2), list(2, 3), list(2, 3), api.OK)
	checkAgree(t, nil, list(5), list(5), api.OK)
	checkAgree(t, list(2, 3), list(2, 4), nil, api.ErrLength)

	checkAgree(t, list(2, 3), list(2), list(2, 3), api.OK)
	checkAgree(t, list(5), list(), list(5), api.OK)
	checkAgree(t, nil, nil, nil, api.OK)
	checkAgree(t, nil, list(), nil, api.OK)
	checkAgree(t, list(2, 3), list(2, 3), list(2, 3), api.OK)
	checkAgree(t, list(3), list(2, 3), nil, api.ErrLength)
	checkAgree(t, list(2, 3), list(3), nil, api.ErrLength)
	checkAgree(t, list(1), list(3), nil, api.ErrLength)
	checkAgree(t, list(1, 3), list(2, 3, 4), nil, api.ErrLength)
	checkAgree(t, list(2, 3, 4), list(2, 4), nil, api.ErrLength)
	checkAgree(t, list(0), list(0, 9), list(0, 9), api.OK)
	checkAgree(t, list(0), list(1), nil, api.ErrLength)
}

// TestAgreeWhatever: lists that are no shape that may be agree, too.
func TestAgreeWhatever(t *testing.T) {
	for _, a := range shapes() {
		for _, b := range shapes() {
			shared := min(len(a), len(b))
			if !slices.Equal(a[:shared], b[:shared]) {
				checkAgree(t, a, b, nil, api.ErrLength)
				continue
			}
			want := b
			if len(a) > len(b) {
				want = a
			}
			checkAgree(t, a, b, want, api.OK)
		}
	}
	checkAgree(t, list(-7, 9), list(-7), list(-7, 9), api.OK)
	checkAgree(t, times(40, least), times(39, least), times(40, least), api.OK)
}
