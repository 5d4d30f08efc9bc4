package digit

import (
	"fmt"
	"math"
	"math/big"
	"slices"
	"strings"
	"testing"

	"abacus/api"
)

const (
	least = math.MinInt
	most  = math.MaxInt
)

// array is an array of these lengths and atoms, be it one that may be or not.
func array(s []int, atoms ...int64) api.Array { return api.Array{Shape: s, Atoms: atoms} }

func lengths(n ...int) []int { return n }

func scalar(n int64) api.Array { return array(nil, n) }

func list(atoms ...int64) api.Array { return array(lengths(len(atoms)), atoms...) }

// table is the one that the chapter's examples call t.
func table() api.Array { return array(lengths(2, 3), 1, 2, 3, 4, 5, 6) }

// times is a shape of n equal lengths.
func times(n, length int) []int { return slices.Repeat(lengths(length), n) }

// repeats is a list of n equal numbers.
func repeats(n int, number int64) api.Array { return list(slices.Repeat([]int64{number}, n)...) }

// rises is 0, 1, 2 .. of that shape.
func rises(s ...int) api.Array {
	a := zeros(s...)
	for i := range a.Atoms {
		a.Atoms[i] = int64(i)
	}
	return a
}

// sizeOf is the number of a shape's places, of one that may be.
func sizeOf(s []int) int {
	size := 1
	for _, length := range s {
		size *= length
	}
	return size
}

func zeros(s ...int) api.Array { return array(s, make([]int64, sizeOf(s))...) }

// numbered is an array of that shape, no two atoms alike, some below 0.
func numbered(s ...int) api.Array {
	a := zeros(s...)
	for i := range a.Atoms {
		a.Atoms[i] = 15 - int64(10*i)
	}
	return a
}

// goodShapes are shapes that may be.
func goodShapes() [][]int {
	return [][]int{
		nil, lengths(0), lengths(1), lengths(2), lengths(5), lengths(64), lengths(65), lengths(4095), lengths(4096),
		lengths(2, 3), lengths(3, 2), lengths(1, 1), lengths(1, 5), lengths(5, 1), lengths(0, 0), lengths(0, 3), lengths(3, 0), lengths(0, 4096), lengths(4096, 0), lengths(64, 64), lengths(32, 64), lengths(1, 4096), lengths(4096, 1),
		lengths(2, 3, 4), lengths(2, 0, 4), lengths(0, 3, 4), lengths(2, 3, 0), lengths(64, 0, 64), lengths(16, 16, 16),
		lengths(2, 3, 2, 2), times(7, 1), times(7, 2), times(8, 1), times(8, 0), times(8, 2), append(times(7, 2), 32), append(times(7, 0), 4096), append(lengths(2), times(7, 0)...), append(times(6, 1), 2, 3),
	}
}

// fewShapes are those of them that have few atoms and few items.
func fewShapes() [][]int {
	return slices.DeleteFunc(goodShapes(), func(s []int) bool { return sizeOf(s) > 130 || len(s) > 0 && s[0] > 130 })
}

// wrongShapes are shapes that may not be.
func wrongShapes() [][]int {
	return [][]int{
		lengths(-1), lengths(least), lengths(1, -1), lengths(-2, -3), lengths(0, -1), lengths(5000, -1), append(times(8, 1), -1),
		times(9, 1), times(9, 0), times(100, 1), lengths(4097), lengths(most), lengths(64, 65), lengths(0, 4097), lengths(4097, 0), lengths(64, 0, 65),
		// Their products are 0 or 1, were they reckoned by 64 bits alone.
		lengths(1<<62, 4), lengths(1<<32, 1<<32), lengths(7, 7905747460161236407), lengths(0, most, most),
	}
}

// wrongArrays are arrays that may not be: of wrong shapes, and of good ones with too few and too many atoms.
func wrongArrays() []api.Array {
	out := []api.Array{{}}
	for _, s := range wrongShapes() {
		for _, n := range []int{0, 1, 2, 4097, 4160} {
			out = append(out, array(s, make([]int64, n)...))
		}
	}
	for _, s := range goodShapes() {
		size := sizeOf(s)
		for _, n := range []int{0, 1, size - 1, size + 1, 4097} {
			if n >= 0 && n != size {
				out = append(out, array(s, make([]int64, n)...))
			}
		}
	}
	return out
}

func alike(a, b api.Array) bool {
	return slices.Equal(a.Shape, b.Shape) && slices.Equal(a.Atoms, b.Atoms)
}

// brief cuts an array short, so that a failing test stays readable.
func brief(a api.Array) string {
	return fmt.Sprint(a.Shape[:min(len(a.Shape), 12)], "|", a.Atoms[:min(len(a.Atoms), 12)], " of ", len(a.Atoms))
}

// checkMonad and checkDyad hold an answer against what is wanted; beside an error that is an array of nothing.

func checkMonad(t *testing.T, op int, y, want api.Array, e api.Errno) {
	t.Helper()
	if got, gotE := Monad(op, y); gotE != e || !alike(got, want) {
		t.Errorf("P8.2: Monad(%d, %s): %s, %v; want %s, %v", op, brief(y), brief(got), gotE, brief(want), e)
	}
}

func checkDyad(t *testing.T, op int, x, y, want api.Array, e api.Errno) {
	t.Helper()
	if got, gotE := Dyad(op, x, y); gotE != e || !alike(got, want) {
		t.Errorf("P8.3: Dyad(%d, %s, %s): %s, %v; want %s, %v", op, brief(x), brief(y), brief(got), gotE, brief(want), e)
	}
}

// monadOps and dyadOps are the ops that have a row for that valence; tableOps all that have a row.

func monadOps() []int { return []int{api.PIota, api.PWhere, api.PBase, api.PAnti} }

func dyadOps() []int { return []int{api.PTally, api.PBase, api.PAnti} }

func tableOps() []int { return []int{api.PIota, api.PWhere, api.PTally, api.PBase, api.PAnti} }

func noMonads() []int { return []int{api.PTally} }

func noDyads() []int { return []int{api.PIota, api.PWhere} }

// noRows are primitives of other tables, and numbers of no primitive; some are one of the table's by 32 or by 8 bits.
func noRows() []int {
	out := []int{0, -1, -22, -34, -39, -40, -43, least, least + 1, most, most - 1, 1 << 32, 1<<32 + api.PIota, 1<<32 + api.PBase, -1<<32 + api.PAnti, 1<<8 + api.PWhere, 1<<16 + api.PTally, 1<<62 + api.PBase, 44, 1000, api.Prims + 1}
	for op := 1; op <= api.Prims; op++ {
		if !slices.Contains(tableOps(), op) {
			out = append(out, op)
		}
	}
	return out
}

// nest is an array as a tree: of rank 0 an atom, else its items.
type nest struct {
	atom  int64
	items []nest
}

// nested takes as many atoms as the tree of that shape has off the beginning.
func nested(s []int, atoms *[]int64) nest {
	if len(s) == 0 {
		n := nest{atom: (*atoms)[0]}
		*atoms = (*atoms)[1:]
		return n
	}
	var n nest
	for range s[0] {
		n.items = append(n.items, nested(s[1:], atoms))
	}
	return n
}

func treeOf(a api.Array) nest {
	atoms := slices.Clone(a.Atoms)
	return nested(a.Shape, &atoms)
}

// flat tells a tree's atoms; how deep they lie is told, since a tree without items does not show it.
func flat(n nest, rank int) []int64 {
	if rank == 0 {
		return []int64{n.atom}
	}
	var out []int64
	for _, item := range n.items {
		out = append(out, flat(item, rank-1)...)
	}
	return out
}

// turn turns a tree's items round at each depth whose number is below 0.
func turn(n nest, numbers []int64) {
	if len(numbers) == 0 {
		return
	}
	if numbers[0] < 0 {
		slices.Reverse(n.items)
	}
	for _, item := range n.items {
		turn(item, numbers[1:])
	}
}

// itemsOf are the atoms of each item of an array that may be; a scalar is its own item.
func itemsOf(a api.Array) [][]int64 {
	if len(a.Shape) == 0 {
		return [][]int64{a.Atoms}
	}
	var out [][]int64
	for _, item := range treeOf(a).items {
		out = append(out, flat(item, len(a.Shape)-1))
	}
	return out
}

func refused(e api.Errno) (api.Array, api.Errno) { return api.Array{}, e }

// great is a number that no sum and no product is too much for.
func great(n int64) *big.Int { return big.NewInt(n) }

func isBelow0(n int64) bool { return n < 0 }

// mayBe tells whether there is a shape of these lengths, none of which is below 0.
func mayBe(s []*big.Int) bool {
	product := great(1)
	for _, length := range s {
		if length.Sign() > 0 {
			product.Mul(product, length)
		}
	}
	return len(s) <= 8 && product.Cmp(great(4096)) <= 0
}

// wantedMonad is what a row says of an array that may be.
func wantedMonad(op int, y api.Array) (api.Array, api.Errno) {
	if op != api.PAnti && len(y.Shape) > 1 {
		return refused(api.ErrRank)
	}
	switch op {
	case api.PIota:
		return wantedCount(y)
	case api.PWhere:
		return wantedWhere(y)
	case api.PBase:
		return wantedDyad(op, scalar(2), y)
	}
	return wantedBinary(y)
}

func wantedCount(y api.Array) (api.Array, api.Errno) {
	var far []*big.Int
	var s []int
	for _, n := range y.Atoms {
		far = append(far, great(0).Abs(great(n)))
		s = append(s, int(max(n, -n)))
	}
	if !mayBe(far) {
		return refused(api.ErrSize)
	}
	tree := treeOf(rises(s...))
	turn(tree, y.Atoms)
	return array(s, flat(tree, len(s))...), api.OK
}

func wantedWhere(y api.Array) (api.Array, api.Errno) {
	if slices.ContainsFunc(y.Atoms, isBelow0) {
		return refused(api.ErrDomain)
	}
	sum := great(0)
	for _, n := range y.Atoms {
		sum.Add(sum, great(n))
	}
	if sum.Cmp(great(4096)) > 0 {
		return refused(api.ErrSize)
	}
	var out []int64
	for place, n := range y.Atoms {
		for range n {
			out = append(out, int64(place))
		}
	}
	return list(out...), api.OK
}

func wantedBinary(y api.Array) (api.Array, api.Errno) {
	width := 0
	for _, n := range y.Atoms {
		width = max(width, len(great(0).Abs(great(n)).Text(2)))
	}
	s := append(slices.Clone(y.Shape), width)
	var far []*big.Int
	for _, length := range s {
		far = append(far, great(int64(length)))
	}
	if !mayBe(far) {
		return refused(api.ErrSize)
	}
	var out []int64
	whole := great(0).Lsh(great(1), uint(width))
	for _, n := range y.Atoms {
		text := great(0).Mod(great(n), whole).Text(2)
		for _, digit := range strings.Repeat("0", width-len(text)) + text {
			out = append(out, int64(digit-'0'))
		}
	}
	return array(s, out...), api.OK
}

// wantedDyad is what a row says of two arrays that may be.
func wantedDyad(op int, x, y api.Array) (api.Array, api.Errno) {
	if len(x.Shape) > 1 || op == api.PBase && len(y.Shape) > 1 || op == api.PAnti && len(y.Shape) > 0 {
		return refused(api.ErrRank)
	}
	switch op {
	case api.PTally:
		return wantedCopies(x, y)
	case api.PBase:
		return wantedNumber(x, y)
	}
	return wantedDigits(x, y)
}

func wantedCopies(x, y api.Array) (api.Array, api.Errno) {
	items, numbers := itemsOf(y), x.Atoms
	if len(x.Shape) == 1 && len(y.Shape) > 0 && len(numbers) != len(items) {
		return refused(api.ErrLength)
	}
	if slices.ContainsFunc(numbers, isBelow0) {
		return refused(api.ErrDomain)
	}
	if len(x.Shape) == 0 {
		numbers = slices.Repeat(numbers, len(items))
	}
	if len(y.Shape) == 0 {
		items = slices.Repeat(items, len(numbers))
	}
	far := []*big.Int{great(0)}
	for _, n := range numbers {
		far[0].Add(far[0], great(n))
	}
	for _, length := range y.Shape[min(1, len(y.Shape)):] {
		far = append(far, great(int64(length)))
	}
	if !mayBe(far) {
		return refused(api.ErrSize)
	}
	out := array(nil)
	for _, length := range far {
		out.Shape = append(out.Shape, int(length.Int64()))
	}
	for i, item := range items {
		for range numbers[i] {
			out.Atoms = append(out.Atoms, item...)
		}
	}
	return out, api.OK
}

func wantedNumber(x, y api.Array) (api.Array, api.Errno) {
	bases, digits := x.Atoms, y.Atoms
	switch {
	case len(x.Shape) == 0:
		bases = slices.Repeat(bases, len(digits))
	case len(y.Shape) == 0:
		digits = slices.Repeat(digits, len(bases))
	}
	if len(bases) != len(digits) {
		return refused(api.ErrLength)
	}
	r := great(0)
	for i, base := range bases {
		r.Mul(r, great(base))
		product := r.IsInt64()
		if r.Add(r, great(digits[i])); !product || !r.IsInt64() {
			return refused(api.ErrOver)
		}
	}
	return scalar(r.Int64()), api.OK
}

func wantedDigits(x, y api.Array) (api.Array, api.Errno) {
	out := array(slices.Clone(x.Shape), slices.Clone(x.Atoms)...)
	r := great(y.Atoms[0])
	for i, n := range slices.Backward(x.Atoms) {
		left, base := great(0), great(n)
		if n == 0 {
			r, left = left, r
		} else if r, left = r.QuoRem(r, base, left); left.Sign()*base.Sign() < 0 {
			r.Sub(r, great(1))
			left.Add(left, base)
		}
		if !r.IsInt64() {
			return refused(api.ErrOver)
		}
		out.Atoms[i] = left.Int64()
	}
	return out, api.OK
}

// dice are numbers that look thrown, the same ones each time.
type dice uint64

func (d *dice) throw(n int) int {
	*d = *d*6364136223846793005 + 1442695040888963407
	return int(uint64(*d) >> 33 % uint64(n))
}

// shape throws a shape of at most so many lengths with few places.
func (d *dice) shape(rank int) []int {
	s := make([]int, d.throw(rank+1))
	for i := range s {
		s[i] = d.throw(4)
		if d.throw(3) > 0 && len(s) > 3 {
			s[i] = 1
		}
	}
	return s
}

// array throws the atoms of an array of that shape out of few numbers, some of them the farthest ones.
func (d *dice) array(s []int) api.Array {
	few := [][]int64{{0}, {1, 2}, {0, -1, 1}, {api.Min, 0, api.Max, -1, 1}, {5, 1, 3, 2, 4, 10}, {2, 0, 3, 1, 1, 2}, {1 << 32, 0, 1<<32 + 1, -1 << 32, 1 << 31}, {1 << 62, 2, -2, -1 << 62, 1}, {-7, 7, 3, -3, 60, -60}, {1000, 2000, 3000, 0}}[d.throw(10)]
	a := zeros(s...)
	for i := range a.Atoms {
		a.Atoms[i] = few[d.throw(len(few))]
	}
	return a
}

// number throws a number of any width, of either sign.
func (d *dice) number() int64 {
	n := int64(uint64(d.throw(1<<30))<<34 ^ uint64(d.throw(1<<30))<<17 ^ uint64(d.throw(1<<30)))
	return n >> d.throw(64)
}
