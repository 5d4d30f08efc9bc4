package show

import (
	"fmt"
	"math"
	"math/big"
	"regexp"
	"slices"
	"strings"
	"testing"

	"abacus/api"
)

const (
	least = math.MinInt
	most  = math.MaxInt
)

// array is an array of these lengths and atoms, be it one that may be or not.
func array(s []int, atoms ...int64) api.Array { return api.Array{Shape: s, Atoms: atoms} }

func lengths(n ...int) []int { return n }

func scalar(n int64) api.Array { return array(nil, n) }

func list(atoms ...int64) api.Array { return array(lengths(len(atoms)), atoms...) }

// times is a shape of n equal lengths.
func times(n, length int) []int { return slices.Repeat(lengths(length), n) }

// repeats is a list of n equal numbers.
func repeats(n int, number int64) api.Array { return list(slices.Repeat([]int64{number}, n)...) }

// sizeOf is the number of a shape's places, of one that may be.
func sizeOf(s []int) int {
	size := 1
	for _, length := range s {
		size *= length
	}
	return size
}

func zeros(s ...int) api.Array { return array(s, make([]int64, sizeOf(s))...) }

// numbered is an array of that shape, no two atoms alike, some below 0, of several widths.
func numbered(s ...int) api.Array {
	a := zeros(s...)
	for i := range a.Atoms {
		a.Atoms[i] = 15 - int64(10*i)
	}
	return a
}

// goodShapes are shapes that may be, of every rank, with atoms and without.
func goodShapes() [][]int {
	out := [][]int{
		nil, lengths(0), lengths(1), lengths(2), lengths(5), lengths(64), lengths(65), lengths(4095), lengths(4096),
		lengths(2, 3), lengths(3, 2), lengths(1, 1), lengths(1, 5), lengths(5, 1), lengths(0, 0), lengths(0, 3), lengths(3, 0), lengths(0, 4096), lengths(4096, 0), lengths(64, 64), lengths(32, 64), lengths(1, 4096), lengths(4096, 1),
		lengths(2, 3, 4), lengths(2, 0, 4), lengths(0, 3, 4), lengths(2, 3, 0), lengths(64, 0, 64), lengths(16, 16, 16), lengths(1, 3, 1), lengths(2, 1, 2), lengths(1, 1, 4096), lengths(4096, 1, 1),
		lengths(2, 3, 2, 2), lengths(2, 1, 1, 1), lengths(1, 2, 1, 2), lengths(2, 1, 3, 1), append(times(7, 2), 32), append(lengths(32), times(7, 2)...), append(times(7, 0), 4096), append(lengths(2), times(7, 0)...), append(times(7, 2), 0), append(times(6, 1), 2, 3),
	}
	for rank := 2; rank <= 8; rank++ {
		out = append(out, times(rank, 0), times(rank, 1), times(rank, 2), append(lengths(3), times(rank-1, 1)...), append(times(rank-1, 1), 3))
		for axis := range rank {
			long, none := times(rank, 1), times(rank, 2)
			long[axis], none[axis] = 4, 0
			out = append(out, long, none)
		}
	}
	return out
}

// wrongShapes are shapes that may not be.
func wrongShapes() [][]int {
	return [][]int{
		lengths(-1), lengths(least), lengths(1, -1), lengths(-2, -3), lengths(0, -1), lengths(5000, -1), append(times(8, 1), -1),
		times(9, 1), times(9, 0), times(100, 1), lengths(4097), lengths(most), lengths(64, 65), lengths(0, 4097), lengths(4097, 0), lengths(64, 0, 65),
		// Their products are 0 or 1, were they reckoned by 64 bits alone.
		lengths(1<<62, 4), lengths(1<<32, 1<<32), lengths(7, 7905747460161236407), lengths(0, most, most),
	}
}

// wrongArrays are arrays that may not be: of wrong shapes, and of good ones with too few and too many atoms.
func wrongArrays() []api.Array {
	out := []api.Array{{}}
	for _, s := range wrongShapes() {
		for _, n := range []int{0, 1, 2, 4097, 4160} {
			out = append(out, array(s, make([]int64, n)...))
		}
	}
	for _, s := range goodShapes() {
		size := sizeOf(s)
		for _, n := range []int{0, 1, size - 1, size + 1, 4097} {
			if n >= 0 && n != size {
				out = append(out, array(s, make([]int64, n)...))
			}
		}
	}
	return out
}

func alike(a, b api.Array) bool {
	return slices.Equal(a.Shape, b.Shape) && slices.Equal(a.Atoms, b.Atoms)
}

// brief cuts an array short, so that a failing test stays readable.
func brief(a api.Array) string {
	return fmt.Sprint(a.Shape[:min(len(a.Shape), 12)], "|", a.Atoms[:min(len(a.Atoms), 12)], " of ", len(a.Atoms))
}

// short cuts a text short likewise.
func short(s string) string { return fmt.Sprintf("%.80q of %d bytes", s, len(s)) }

// checkText, checkFlat and checkRead hold an answer against what is wanted.

func checkText(t *testing.T, a api.Array, want string, e api.Errno) {
	t.Helper()
	if got, gotE := Text(a); gotE != e || got != want {
		t.Errorf("P10.1: Text(%s): %s, %v; want %s, %v", brief(a), short(got), gotE, short(want), e)
	}
}

func checkFlat(t *testing.T, a api.Array, want string, e api.Errno) {
	t.Helper()
	if got, gotE := Flat(a); gotE != e || got != want {
		t.Errorf("P10.2: Flat(%s): %s, %v; want %s, %v", brief(a), short(got), gotE, short(want), e)
	}
}

func checkRead(t *testing.T, s string, want api.Array, place int, e api.Errno) {
	t.Helper()
	if got, gotPlace, gotE := Read(s); gotE != e || gotPlace != place || !alike(got, want) {
		t.Errorf("P10.3: Read(%s): %s, %d, %v; want %s, %d, %v", short(s), brief(got), gotPlace, gotE, brief(want), place, e)
	}
}

// wantedNumber is a number as it is written.
func wantedNumber(n int64) string {
	great := big.NewInt(n)
	if great.Sign() < 0 {
		return "_" + great.Abs(great).String()
	}
	return great.String()
}

func wantedNumbers(atoms []int64) []string {
	out := make([]string, len(atoms))
	for i, n := range atoms {
		out[i] = wantedNumber(n)
	}
	return out
}

// counted are the indices of all places of a shape in row order, the first axis counted first.
func counted(s []int) [][]int {
	out := [][]int{nil}
	for _, length := range s {
		var longer [][]int
		for _, at := range out {
			for i := range length {
				longer = append(longer, append(slices.Clone(at), i))
			}
		}
		out = longer
	}
	return out
}

// wantedText is what P10.1 says of an array that may be, line by line.
func wantedText(a api.Array) string {
	rank, numbers := len(a.Shape), wantedNumbers(a.Atoms)
	if rank < 2 || len(numbers) == 0 {
		return strings.Join(numbers, " ")
	}
	columns := a.Shape[rank-1]
	widths := make([]int, columns)
	for i, number := range numbers {
		widths[i%columns] = max(widths[i%columns], len(number))
	}
	var text strings.Builder
	lines := counted(a.Shape[:rank-1])
	for l, at := range lines {
		var line []string
		for c, number := range numbers[l*columns : (l+1)*columns] {
			line = append(line, fmt.Sprintf("%*s", widths[c], number))
		}
		text.WriteString(strings.Join(line, " "))
		if l+1 < len(lines) {
			j := 0
			for at[j] == lines[l+1][j] {
				j++
			}
			text.WriteString("\n" + strings.Repeat("\n", rank-2-j))
		}
	}
	return text.String()
}

// wantedFlat is what P10.2 says of an array that may be.
func wantedFlat(a api.Array) string {
	numbers := wantedNumbers(a.Atoms)
	if len(a.Shape) == 0 || len(a.Shape) == 1 && len(numbers) >= 2 {
		return strings.Join(numbers, " ")
	}
	var words []string
	for _, length := range a.Shape {
		words = append(words, wantedNumber(int64(length)))
	}
	return strings.Join(slices.Concat(words, []string{"$"}, numbers), " ")
}

// manyWords is a text of words with blanks between, oneNumber a word that is a number.
var (
	manyWords = regexp.MustCompile(`^([$]|0|_?[1-9][0-9]*)( ([$]|0|_?[1-9][0-9]*))*$`)
	oneNumber = regexp.MustCompile(`^(0|_?[1-9][0-9]*)$`)
)

func isWords(s string) bool { return manyWords.MatchString(s) && strings.Count(s, "$") <= 1 }

// canGoOn tells whether something stands behind s in some text of words, be it nothing: wherever a digit is no way on, s is such a text itself.
func canGoOn(s string) bool { return isWords(s) || isWords(s+"1") }

// numberOf is a word as a number that nothing is too much for.
func numberOf(word string) *big.Int {
	n, _ := new(big.Int).SetString(strings.Replace(word, "_", "-", 1), 10)
	return n
}

// wantedRead is what P10.3 says of a text: how far the words go is found by holding all its beginnings against a pattern.
func wantedRead(s string) (api.Array, int, api.Errno) {
	if len(s) > 1<<20 {
		return api.Array{}, 0, api.ErrLong
	}
	far := len(s)
	for !canGoOn(s[:far]) {
		far--
	}
	place := 0
	for word := range strings.SplitSeq(s[:far], " ") {
		if oneNumber.MatchString(word) && !numberOf(word).IsInt64() {
			return api.Array{}, place, api.ErrNumber
		}
		place += len(word) + 1
	}
	if !isWords(s) {
		return api.Array{}, far, api.ErrText
	}
	return wantedWhole(s)
}

// wantedWhole is what a text of words says, all of its numbers being of 64 bits.
func wantedWhole(s string) (api.Array, int, api.Errno) {
	numbers := [2][]int64{}
	side := 0
	for word := range strings.FieldsSeq(s) {
		if word == "$" {
			side = 1
			continue
		}
		numbers[side] = append(numbers[side], numberOf(word).Int64())
	}
	if side == 1 {
		return wantedShaped(s, numbers[0], numbers[1])
	}
	if len(numbers[0]) > 4096 {
		return api.Array{}, 0, api.ErrSize
	}
	if len(numbers[0]) == 1 {
		return scalar(numbers[0][0]), 0, api.OK
	}
	return list(numbers[0]...), 0, api.OK
}

func wantedShaped(s string, ahead, atoms []int64) (api.Array, int, api.Errno) {
	if len(ahead) == 0 {
		return api.Array{}, strings.Index(s, "$"), api.ErrText
	}
	var shape []int
	size, product := 1, big.NewInt(1)
	for _, n := range ahead {
		if n < 0 {
			return api.Array{}, 0, api.ErrSize
		}
		if n > 0 {
			product.Mul(product, big.NewInt(n))
		}
		shape = append(shape, int(n))
	}
	if len(ahead) > 8 || product.Cmp(big.NewInt(4096)) > 0 {
		return api.Array{}, 0, api.ErrSize
	}
	for _, length := range shape {
		size *= length
	}
	if len(atoms) != size {
		return api.Array{}, len(s), api.ErrLength
	}
	if len(shape) == 1 && size > 1 {
		return api.Array{}, strings.Index(s, "$"), api.ErrText
	}
	return array(shape, atoms...), 0, api.OK
}

// dice are numbers that look thrown, the same ones each time.
type dice uint64

func (d *dice) throw(n int) int {
	*d = *d*6364136223846793005 + 1442695040888963407
	return int(uint64(*d) >> 33 % uint64(n))
}

// number throws a number of any width, of either sign.
func (d *dice) number() int64 {
	n := int64(uint64(d.throw(1<<30))<<34 ^ uint64(d.throw(1<<30))<<17 ^ uint64(d.throw(1<<30)))
	return n >> d.throw(64)
}

// shape throws a shape of any rank with few places.
func (d *dice) shape() []int {
	s := make([]int, d.throw(9))
	for i := range s {
		s[i] = 1 + d.throw(3)
		if d.throw(3) > 0 && len(s) > 4 {
			s[i] = 1
		}
		if d.throw(30) == 0 {
			s[i] = 0
		}
	}
	return s
}

// array throws an array of that shape, its numbers as wide as a throw says.
func (d *dice) array(s []int) api.Array {
	a, narrow := zeros(s...), d.throw(64)
	for i := range a.Atoms {
		a.Atoms[i] = d.number() >> narrow
	}
	return a
}
