package atom

import (
	"fmt"
	"math"
	"slices"
	"testing"

	"abacus/api"
	"abacus/num"
)

const (
	least = math.MinInt
	most  = math.MaxInt
)

// array is an array of these lengths and atoms, be it one that may be or not.
func array(s []int, atoms ...int64) api.Array { return api.Array{Shape: s, Atoms: atoms} }

func lengths(n ...int) []int { return n }

func scalar(n int64) api.Array { return array(nil, n) }

func list(atoms ...int64) api.Array { return array(lengths(len(atoms)), atoms...) }

// table is the one that the chapter's examples call m.
func table() api.Array { return array(lengths(2, 3), 1, 2, 3, 4, 5, 6) }

// times is a shape of n equal lengths.
func times(n, length int) []int { return slices.Repeat(lengths(length), n) }

// sizeOf is the number of a shape's places, of one that may be.
func sizeOf(s []int) int {
	size := 1
	for _, length := range s {
		size *= length
	}
	return size
}

// of is an array of that shape with these atoms over and over.
func of(s []int, atoms ...int64) api.Array {
	out := api.Array{Shape: s}
	for i := range sizeOf(s) {
		out.Atoms = append(out.Atoms, atoms[i%len(atoms)])
	}
	return out
}

// numbered is an array of that shape, no two atoms alike, from that number on.
func numbered(from int64, s ...int) api.Array {
	a := of(s, 0)
	for i := range a.Atoms {
		a.Atoms[i] = from + int64(i)
	}
	return a
}

// goodShapes are shapes that may be.
func goodShapes() [][]int {
	return [][]int{
		nil, lengths(0), lengths(1), lengths(2), lengths(3), lengths(5), lengths(64), lengths(4096),
		lengths(2, 3), lengths(3, 2), lengths(1, 1), lengths(1, 5), lengths(5, 1), lengths(0, 0), lengths(0, 3), lengths(2, 0), lengths(3, 0), lengths(0, 4096), lengths(4096, 0), lengths(64, 64), lengths(1, 4096), lengths(4096, 1),
		lengths(2, 3, 4), lengths(2, 3, 1), lengths(3, 2, 4), lengths(2, 0, 4), lengths(0, 3, 4), lengths(2, 3, 0), lengths(64, 0, 64),
		lengths(2, 3, 4, 5), times(8, 1), times(8, 0), times(8, 2), append(times(7, 2), 32), append(times(7, 0), 4096), append(lengths(2), times(7, 0)...), append(lengths(2, 3), times(6, 1)...),
	}
}

// wrongShapes are shapes that may not be.
func wrongShapes() [][]int {
	return [][]int{
		lengths(-1), lengths(least), lengths(1, -1), lengths(-2, -3), lengths(0, -1), lengths(5000, -1), append(times(8, 1), -1),
		times(9, 1), times(9, 0), times(100, 1), lengths(4097), lengths(most), lengths(64, 65), lengths(0, 4097), lengths(4097, 0), lengths(64, 0, 65),
		// Their products are 0 or 1, were they reckoned by 64 bits alone.
		lengths(1<<62, 4), lengths(1<<32, 1<<32), lengths(7, 7905747460161236407), lengths(0, most, most),
	}
}

// wrongArrays are arrays that may not be: of wrong shapes, and of good ones with too few and too many atoms.
func wrongArrays() []api.Array {
	out := []api.Array{{}}
	for _, s := range wrongShapes() {
		for _, n := range []int{0, 1, 2, 4097, 4160} {
			out = append(out, array(s, make([]int64, n)...))
		}
	}
	for _, s := range goodShapes() {
		size := sizeOf(s)
		for _, n := range []int{0, 1, size - 1, size + 1, 4097} {
			if n >= 0 && n != size {
				out = append(out, array(s, make([]int64, n)...))
			}
		}
	}
	return out
}

func alike(a, b api.Array) bool {
	return slices.Equal(a.Shape, b.Shape) && slices.Equal(a.Atoms, b.Atoms)
}

// brief cuts an array short, so that a failing test stays readable.
func brief(a api.Array) string {
	return fmt.Sprint(a.Shape[:min(len(a.Shape), 12)], "|", a.Atoms[:min(len(a.Atoms), 12)], " of ", len(a.Atoms))
}

// checkMonad and checkDyad hold an answer against what is wanted; beside an error that is an array of nothing.

func checkMonad(t *testing.T, op int, y, want api.Array, e api.Errno) {
	t.Helper()
	if got, gotE := Monad(op, y); gotE != e || !alike(got, want) {
		t.Errorf("P5.2: Monad(%d, %s): %s, %v; want %s, %v", op, brief(y), brief(got), gotE, brief(want), e)
	}
}

func checkDyad(t *testing.T, op int, x, y, want api.Array, e api.Errno) {
	t.Helper()
	if got, gotE := Dyad(op, x, y); gotE != e || !alike(got, want) {
		t.Errorf("P5.3: Dyad(%d, %s, %s): %s, %v; want %s, %v", op, brief(x), brief(y), brief(got), gotE, brief(want), e)
	}
}

// monads and dyads are the rows of doc/01-num.md's table that have one, noMonads and noDyads those that have none.

func monads() []int {
	return []int{api.PAdd, api.PSub, api.PMul, api.PRes, api.PMin, api.PMax, api.PLe, api.PGe, api.PNor, api.PNand, api.PNot, api.PMatch, api.PFact}
}

func dyads() []int {
	return []int{api.PAdd, api.PSub, api.PMul, api.PDiv, api.PRes, api.PMin, api.PMax, api.PLess, api.PMore, api.PEq, api.PNe, api.PLe, api.PGe, api.PGcd, api.PLcm, api.PNor, api.PNand, api.PPow, api.PFact}
}

func noMonads() []int {
	return []int{api.PDiv, api.PLess, api.PMore, api.PEq, api.PNe, api.PGcd, api.PLcm, api.PPow}
}

func noDyads() []int { return []int{api.PNot, api.PMatch} }

// noRows are primitives of other tables, and numbers of no primitive; some are one of the table's by 32 or by 8 bits.
func noRows() []int {
	out := []int{0, -1, -2, -4, -19, -21, least, least + 1, most, most - 1, 1 << 32, 1<<32 + api.PAdd, 1<<32 + api.PDiv, -1<<32 + api.PAdd, 1<<8 + api.PAdd, 1<<16 + api.PMatch, 1<<62 + api.PSub, 1000, api.Prims + 1}
	for op := api.PFact + 1; op <= api.Prims; op++ {
		out = append(out, op)
	}
	return out
}

// monadOfAtoms does a monad on a row of atoms from behind, so that the last error that is met is the first one of the row.
func monadOfAtoms(op int, atoms []int64) ([]int64, api.Errno) {
	out, first := make([]int64, len(atoms)), api.OK
	for i, y := range slices.Backward(atoms) {
		n, e := num.Monad(op, y)
		if e != api.OK {
			first = e
		}
		out[i] = n
	}
	return out, first
}

func wantedMonad(op int, y api.Array) (api.Array, api.Errno) {
	atoms, e := monadOfAtoms(op, y.Atoms)
	if e != api.OK {
		return api.Array{}, e
	}
	return array(y.Shape, atoms...), api.OK
}

// itemsOf cuts an array that may be, not a scalar, into its items.
func itemsOf(a api.Array) []api.Array {
	size := sizeOf(a.Shape[1:])
	var out []api.Array
	for i := range a.Shape[0] {
		out = append(out, array(a.Shape[1:], a.Atoms[i*size:(i+1)*size]...))
	}
	return out
}

// begins tells whether s is the beginning of long.
func begins(s, long []int) bool {
	for i, length := range s {
		if i >= len(long) || long[i] != length {
			return false
		}
	}
	return true
}

// wantedDyad pairs two arrays that may be item by item; an atom goes along with all items of the other side.
func wantedDyad(op int, x, y api.Array) (api.Array, api.Errno) {
	var long []int
	switch {
	case begins(x.Shape, y.Shape):
		long = y.Shape
	case begins(y.Shape, x.Shape):
		long = x.Shape
	default:
		return api.Array{}, api.ErrLength
	}
	atoms, e := pairedAtoms(op, x, y)
	if e != api.OK {
		return api.Array{}, e
	}
	return array(long, atoms...), api.OK
}

func pairedAtoms(op int, x, y api.Array) ([]int64, api.Errno) {
	if len(x.Shape) == 0 && len(y.Shape) == 0 {
		n, e := num.Dyad(op, x.Atoms[0], y.Atoms[0])
		return []int64{n}, e
	}
	var xs, ys []api.Array
	switch {
	case len(x.Shape) == 0:
		ys = itemsOf(y)
		xs = slices.Repeat([]api.Array{x}, len(ys))
	case len(y.Shape) == 0:
		xs = itemsOf(x)
		ys = slices.Repeat([]api.Array{y}, len(xs))
	default:
		xs, ys = itemsOf(x), itemsOf(y)
	}
	var out []int64
	for i := range xs {
		atoms, e := pairedAtoms(op, xs[i], ys[i])
		if e != api.OK {
			return nil, e
		}
		out = append(out, atoms...)
	}
	return out, api.OK
}

// dice are numbers that look thrown, the same ones each time.
type dice uint64

func (d *dice) throw(n int) int {
	*d = *d*6364136223846793005 + 1442695040888963407
	return int(uint64(*d) >> 33 % uint64(n))
}
