package arr

import (
	"math"
	"slices"
	"testing"

	"abacus/api"
)

const (
	least = math.MinInt
	most  = math.MaxInt
)

// array is an array of these lengths and atoms, be it one that may be or not.
func array(s []int, atoms ...int64) api.Array { return api.Array{Shape: s, Atoms: atoms} }

func lengths(n ...int) []int { return n }

// times is a shape of n equal lengths.
func times(n, length int) []int { return slices.Repeat(lengths(length), n) }

// numbered is n atoms, no two of them alike, some below 0.
func numbered(n int) []int64 {
	atoms := make([]int64, n)
	for i := range atoms {
		atoms[i] = int64(10*i) - 15
	}
	return atoms
}

// goodShapes are shapes that may be, with the number of their places.
func goodShapes() []struct {
	s    []int
	size int
} {
	return []struct {
		s    []int
		size int
	}{
		{nil, 1}, {lengths(), 1}, {lengths(0), 0}, {lengths(1), 1}, {lengths(2), 2}, {lengths(5), 5}, {lengths(4095), 4095}, {lengths(4096), 4096},
		{lengths(2, 3), 6}, {lengths(3, 2), 6}, {lengths(1, 1), 1}, {lengths(1, 5), 5}, {lengths(5, 1), 5}, {lengths(0, 0), 0}, {lengths(0, 3), 0}, {lengths(3, 0), 0}, {lengths(0, 4096), 0}, {lengths(4096, 0), 0}, {lengths(64, 64), 4096}, {lengths(63, 65), 4095}, {lengths(1, 4096), 4096}, {lengths(4096, 1), 4096},
		{lengths(2, 3, 4), 24}, {lengths(2, 0, 4), 0}, {lengths(0, 3, 4), 0}, {lengths(2, 3, 0), 0}, {lengths(64, 0, 64), 0}, {lengths(16, 16, 16), 4096},
		{times(8, 1), 1}, {times(8, 0), 0}, {times(8, 2), 256}, {append(times(7, 2), 32), 4096}, {append(times(7, 0), 4096), 0},
	}
}

// wrongShapes are shapes that may not be, and why.
func wrongShapes() []struct {
	s []int
	e api.Errno
} {
	return []struct {
		s []int
		e api.Errno
	}{
		{lengths(-1), api.ErrArg}, {lengths(least), api.ErrArg}, {lengths(1, -1), api.ErrArg}, {lengths(-2, -3), api.ErrArg}, {lengths(0, -1), api.ErrArg}, {lengths(-1, 0), api.ErrArg}, {lengths(5000, -1), api.ErrArg}, {lengths(-1, 5000), api.ErrArg}, {append(times(8, 1), -1), api.ErrArg}, {append(times(12, 5000), -1), api.ErrArg},
		{times(9, 1), api.ErrSize}, {times(9, 0), api.ErrSize}, {times(9, 2), api.ErrSize}, {times(100, 1), api.ErrSize},
		{lengths(4097), api.ErrSize}, {lengths(most), api.ErrSize}, {lengths(64, 65), api.ErrSize}, {lengths(0, 4097), api.ErrSize}, {lengths(4097, 0), api.ErrSize}, {lengths(64, 0, 65), api.ErrSize}, {lengths(16, 16, 17), api.ErrSize}, {append(times(7, 2), 33), api.ErrSize},
		// Their products are 0 or 1, were they reckoned by 64 bits alone.
		{lengths(1<<62, 4), api.ErrSize}, {lengths(1<<32, 1<<32), api.ErrSize}, {lengths(7, 7905747460161236407), api.ErrSize}, {lengths(0, most, most), api.ErrSize}, {lengths(most, most), api.ErrSize},
	}
}

// wrongArray is an array that may not be, with what May says of it.
type wrongArray struct {
	a api.Array
	e api.Errno
}

// wrongArrays are arrays that may not be: of wrong shapes, however many atoms they have, and of good ones with too few and too many.
func wrongArrays() []wrongArray {
	var out []wrongArray
	for _, c := range wrongShapes() {
		for _, n := range []int{0, 1, 2, 6, 512, 4096, 4097, 4160} {
			out = append(out, wrongArray{array(c.s, numbered(n)...), c.e})
		}
	}
	for _, c := range goodShapes() {
		for _, n := range []int{0, 1, c.size - 1, c.size + 1, 2*c.size + 2, 4096, 4097} {
			if n >= 0 && n != c.size {
				out = append(out, wrongArray{array(c.s, numbered(n)...), api.ErrArg})
			}
		}
	}
	return out
}

// alike holds two against one another without the package's own means.
func alike(a, b api.Array) bool {
	if len(a.Shape) != len(b.Shape) || len(a.Atoms) != len(b.Atoms) {
		return false
	}
	for i := range a.Shape {
		if a.Shape[i] != b.Shape[i] {
			return false
		}
	}
	for i := range a.Atoms {
		if a.Atoms[i] != b.Atoms[i] {
			return false
		}
	}
	return true
}

// brief cuts an array short, so that a failing test stays readable.
func brief(a api.Array) api.Array {
	return array(a.Shape[:min(len(a.Shape), 12)], a.Atoms[:min(len(a.Atoms), 12)]...)
}

func checkMay(t *testing.T, a api.Array, want api.Errno) {
	t.Helper()
	if e := May(a); e != want {
		t.Errorf("P3.1: May of %v (%d atoms): %v; want %v", brief(a), len(a.Atoms), e, want)
	}
}

// checkMade holds what a call answered against what is wanted; beside an error that is an array of nothing.
func checkMade(t *testing.T, what string, got api.Array, e api.Errno, want api.Array, wantE api.Errno) {
	t.Helper()
	if e != wantE || !alike(got, want) {
		t.Errorf("%s: %v (%d atoms), %v; want %v (%d atoms), %v", what, brief(got), len(got.Atoms), e, brief(want), len(want.Atoms), wantE)
	}
}

func TestMayExamples(t *testing.T) {
	checkMay(t, array(lengths(2, 3), 1, 2, 3, 4, 5, 6), api.OK)
	checkMay(t, array(nil, 7), api.OK)
	checkMay(t, array(lengths(0, 4096)), api.OK)
	checkMay(t, array(lengths(2, 3), 1, 2), api.ErrArg)
	checkMay(t, array(lengths(-1)), api.ErrArg)
	checkMay(t, array(lengths(0, 4097)), api.ErrSize)
	checkMay(t, array(times(9, 1), 5), api.ErrSize)
}

func TestMay(t *testing.T) {
	for _, c := range goodShapes() {
		checkMay(t, array(c.s, numbered(c.size)...), api.OK)
	}
	for _, c := range wrongArrays() {
		checkMay(t, c.a, c.e)
	}
}

// TestMayZero: what has neither lengths nor atoms is a scalar without its atom.
func TestMayZero(t *testing.T) {
	checkMay(t, api.Array{}, api.ErrArg)
	checkMay(t, api.Array{Shape: lengths(), Atoms: []int64{}}, api.ErrArg)
	checkMay(t, array(nil, 1, 2), api.ErrArg)
	checkMay(t, array(lengths(0)), api.OK)
	checkMay(t, array(lengths(0), 1), api.ErrArg)
}

// TestMayOrder: what is wrong with the shape is told ahead of what is wrong with the atoms.
func TestMayOrder(t *testing.T) {
	checkMay(t, array(lengths(64, 65), 1), api.ErrSize)
	checkMay(t, array(times(9, 1)), api.ErrSize)
	checkMay(t, array(lengths(4097), numbered(4097)...), api.ErrSize)
	checkMay(t, array(lengths(4097, -1), numbered(4097)...), api.ErrArg)
}

func TestScalar(t *testing.T) {
	for _, n := range []int64{5, 0, 1, -1, 4096, 4097, api.Min, api.Max} {
		a := Scalar(n)
		checkMade(t, "P3.2: Scalar", a, api.OK, array(nil, n), api.OK)
		checkMay(t, a, api.OK)
	}
}

func TestList(t *testing.T) {
	a, e := List()
	checkMade(t, "P3.2: List()", a, e, array(lengths(0)), api.OK)
	a, e = List(5)
	checkMade(t, "P3.2: List(5)", a, e, array(lengths(1), 5), api.OK)
	a, e = List(api.Min, 0, api.Max)
	checkMade(t, "P3.2: List of three", a, e, array(lengths(3), api.Min, 0, api.Max), api.OK)
	a, e = List([]int64(nil)...)
	checkMade(t, "P3.2: List of nil", a, e, array(lengths(0)), api.OK)
	a, e = List([]int64{}...)
	checkMade(t, "P3.2: List of none", a, e, array(lengths(0)), api.OK)
	for _, n := range []int{1, 2, 63, 64, 65, 4095, 4096} {
		a, e = List(numbered(n)...)
		checkMade(t, "P3.2: List", a, e, array(lengths(n), numbered(n)...), api.OK)
		checkMay(t, a, api.OK)
	}
	for _, n := range []int{4097, 4098, 8192, 1 << 17} {
		a, e = List(make([]int64, n)...)
		checkMade(t, "P3.2: List of too many", a, e, api.Array{}, api.ErrSize)
	}
}

func TestFill(t *testing.T) {
	a, e := Fill(lengths(2, 0), 9)
	checkMade(t, "P3.2: Fill(2 0, 9)", a, e, array(lengths(2, 0)), api.OK)
	for _, c := range goodShapes() {
		for _, n := range []int64{9, 0, -1, api.Min, api.Max} {
			want := array(c.s)
			for range c.size {
				want.Atoms = append(want.Atoms, n)
			}
			a, e := Fill(c.s, n)
			checkMade(t, "P3.2: Fill", a, e, want, api.OK)
			checkMay(t, a, api.OK)
		}
	}
	for _, c := range wrongShapes() {
		a, e := Fill(c.s, 9)
		checkMade(t, "P3.2: Fill", a, e, api.Array{}, c.e)
	}
}
