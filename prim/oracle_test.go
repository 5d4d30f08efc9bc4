package prim

import (
	"fmt"
	"math"
	"slices"
	"strconv"
	"strings"
	"testing"

	"abacus/api"
	"abacus/atom"
	"abacus/digit"
	"abacus/mold"
	"abacus/seek"
)

const (
	least = math.MinInt
	most  = math.MaxInt
)

// array is an array of these lengths and atoms, be it one that may be or not.
func array(s []int, atoms ...int64) api.Array { return api.Array{Shape: s, Atoms: atoms} }

func lengths(n ...int) []int { return n }

func scalar(n int64) api.Array { return array(nil, n) }

func list(atoms ...int64) api.Array { return array(lengths(len(atoms)), atoms...) }

// table is the one that the chapter's examples call t.
func table() api.Array { return array(lengths(2, 3), 1, 2, 3, 4, 5, 6) }

// times is a shape of n equal lengths.
func times(n, length int) []int { return slices.Repeat(lengths(length), n) }

// repeats is a list of n equal numbers.
func repeats(n int, number int64) api.Array { return list(slices.Repeat([]int64{number}, n)...) }

// rises is 0, 1, 2 .. of that shape.
func rises(s ...int) api.Array {
	a := zeros(s...)
	for i := range a.Atoms {
		a.Atoms[i] = int64(i)
	}
	return a
}

// sizeOf is the number of a shape's places, of one that may be.
func sizeOf(s []int) int {
	size := 1
	for _, length := range s {
		size *= length
	}
	return size
}

func zeros(s ...int) api.Array { return array(s, make([]int64, sizeOf(s))...) }

// numbered is an array of that shape, no two atoms alike, some below 0.
func numbered(s ...int) api.Array {
	a := zeros(s...)
	for i := range a.Atoms {
		a.Atoms[i] = 15 - int64(10*i)
	}
	return a
}

// goodShapes are shapes that may be.
func goodShapes() [][]int {
	return [][]int{
		nil, lengths(0), lengths(1), lengths(2), lengths(5), lengths(64), lengths(65), lengths(4095), lengths(4096),
		lengths(2, 3), lengths(3, 2), lengths(1, 1), lengths(1, 5), lengths(5, 1), lengths(0, 0), lengths(0, 3), lengths(3, 0), lengths(0, 4096), lengths(4096, 0), lengths(64, 64), lengths(32, 64), lengths(1, 4096), lengths(4096, 1),
		lengths(2, 3, 4), lengths(2, 0, 4), lengths(0, 3, 4), lengths(2, 3, 0), lengths(64, 0, 64), lengths(16, 16, 16),
		lengths(2, 3, 2, 2), times(7, 1), times(7, 2), times(8, 1), times(8, 0), times(8, 2), append(times(7, 2), 32), append(times(7, 0), 4096), append(lengths(2), times(7, 0)...), append(times(6, 1), 2, 3),
	}
}

// fewShapes are those of them that have few atoms and few items.
func fewShapes() [][]int {
	return slices.DeleteFunc(goodShapes(), func(s []int) bool { return sizeOf(s) > 130 || len(s) > 0 && s[0] > 130 })
}

// wrongShapes are shapes that may not be.
func wrongShapes() [][]int {
	return [][]int{
		lengths(-1), lengths(least), lengths(1, -1), lengths(-2, -3), lengths(0, -1), lengths(5000, -1), append(times(8, 1), -1),
		times(9, 1), times(9, 0), times(100, 1), lengths(4097), lengths(most), lengths(64, 65), lengths(0, 4097), lengths(4097, 0), lengths(64, 0, 65),
		// Their products are 0 or 1, were they reckoned by 64 bits alone.
		lengths(1<<62, 4), lengths(1<<32, 1<<32), lengths(7, 7905747460161236407), lengths(0, most, most),
	}
}

// wrongArrays are arrays that may not be: of wrong shapes, and of good ones with too few and too many atoms.
func wrongArrays() []api.Array {
	out := []api.Array{{}}
	for _, s := range wrongShapes() {
		for _, n := range []int{0, 1, 2, 4097, 4160} {
			out = append(out, array(s, make([]int64, n)...))
		}
	}
	for _, s := range goodShapes() {
		size := sizeOf(s)
		for _, n := range []int{0, 1, size - 1, size + 1, 4097} {
			if n >= 0 && n != size {
				out = append(out, array(s, make([]int64, n)...))
			}
		}
	}
	return out
}

func alike(a, b api.Array) bool {
	return slices.Equal(a.Shape, b.Shape) && slices.Equal(a.Atoms, b.Atoms)
}

// brief cuts an array short, so that a failing test stays readable.
func brief(a api.Array) string {
	return fmt.Sprint(a.Shape[:min(len(a.Shape), 12)], "|", a.Atoms[:min(len(a.Atoms), 12)], " of ", len(a.Atoms))
}

// few are the shapes that stand beside all others: each of the two may begin the other.
func few() [][]int {
	return [][]int{nil, lengths(0), lengths(1), lengths(2), lengths(3), lengths(2, 3), lengths(2, 0), lengths(0, 2), lengths(0, 3), lengths(3, 2), lengths(2, 3, 4), lengths(2, 0, 3), lengths(2, 3, 0), lengths(2, 3, 1, 1, 1, 1, 1, 2), times(8, 1)}
}

// checkMonad and checkDyad hold an answer against what is wanted; beside an error that is an array of nothing.

func checkMonad(t *testing.T, op int, y, want api.Array, e api.Errno) {
	t.Helper()
	if got, gotE := Monad(op, y); gotE != e || !alike(got, want) {
		t.Errorf("P9.3: Monad(%d, %s): %s, %v; want %s, %v", op, brief(y), brief(got), gotE, brief(want), e)
	}
}

func checkDyad(t *testing.T, op int, x, y, want api.Array, e api.Errno) {
	t.Helper()
	if got, gotE := Dyad(op, x, y); gotE != e || !alike(got, want) {
		t.Errorf("P9.4: Dyad(%d, %s, %s): %s, %v; want %s, %v", op, brief(x), brief(y), brief(got), gotE, brief(want), e)
	}
}

// line is a row of the chapter's table, as it is written there.
type line struct {
	op                                        int
	spelling, monad, dyad, identity, commutes string
}

func catalogue() []line {
	return []line{
		{api.PAdd, `+`, "0 atom", "0 0 atom", "0", "yes"},
		{api.PSub, `-`, "0 atom", "0 0 atom", "0", ""},
		{api.PMul, `*`, "0 atom", "0 0 atom", "1", "yes"},
		{api.PDiv, `%`, "", "0 0 atom", "1", ""},
		{api.PRes, `|`, "0 atom", "0 0 atom", "0", ""},
		{api.PMin, `<.`, "0 atom", "0 0 atom", "9223372036854775807", "yes"},
		{api.PMax, `>.`, "0 atom", "0 0 atom", "-9223372036854775808", "yes"},
		{api.PLess, `<`, "", "0 0 atom", "0", ""},
		{api.PMore, `>`, "", "0 0 atom", "0", ""},
		{api.PEq, `=`, "i seek", "0 0 atom", "1", "yes"},
		{api.PNe, `~:`, "i seek", "0 0 atom", "0", "yes"},
		{api.PLe, `<:`, "0 atom", "0 0 atom", "1", ""},
		{api.PGe, `>:`, "0 atom", "0 0 atom", "1", ""},
		{api.PGcd, `+.`, "", "0 0 atom", "0", "yes"},
		{api.PLcm, `*.`, "", "0 0 atom", "1", "yes"},
		{api.PNor, `+:`, "0 atom", "0 0 atom", "", "yes"},
		{api.PNand, `*:`, "0 atom", "0 0 atom", "", "yes"},
		{api.PNot, `-.`, "0 atom", "i i seek", "", ""},
		{api.PMatch, `-:`, "0 atom", "i i seek", "", "yes"},
		{api.PPow, `^`, "", "0 0 atom", "1", ""},
		{api.PFact, `!`, "0 atom", "0 0 atom", "1", ""},
		{api.PTally, `#`, "i mold", "1 i digit", "", ""},
		{api.PShape, `$`, "i mold", "1 i mold", "", ""},
		{api.PRavel, `,`, "i mold", "i i mold", "", ""},
		{api.PStitch, `,.`, "i mold", "i i mold", "", ""},
		{api.PItem, `,:`, "i mold", "i i mold", "", ""},
		{api.PFrom, `{`, "", "0 i seek", "", ""},
		{api.PTake, `{.`, "i mold", "1 i mold", "", ""},
		{api.PDrop, `}.`, "i mold", "1 i mold", "", ""},
		{api.PTail, `{:`, "i mold", "", "", ""},
		{api.PCurt, `}:`, "i mold", "", "", ""},
		{api.PRev, `|.`, "i mold", "1 i mold", "", ""},
		{api.PTran, `|:`, "i mold", "1 i mold", "", ""},
		{api.PIota, `i.`, "1 digit", "i i seek", "", ""},
		{api.PIn, `e.`, "", "i i seek", "", ""},
		{api.PNub, `~.`, "i seek", "", "", ""},
		{api.PUp, `/:`, "i seek", "i i seek", "", ""},
		{api.PDown, `\:`, "i seek", "i i seek", "", ""},
		{api.PBase, `#.`, "1 digit", "1 1 digit", "", ""},
		{api.PAnti, `#:`, "i digit", "1 0 digit", "", ""},
		{api.PLeft, `[`, "i mold", "i i mold", "", ""},
		{api.PRight, `]`, "i mold", "i i mold", "", ""},
		{api.PWhere, `I.`, "1 digit", "", "", ""},
	}
}

// ranksAndWork takes what stands under monad or dyad: the ranks, then the package; of nothing there are none.
func ranksAndWork(text string) ([]int, works) {
	words := strings.Fields(text)
	if len(words) == 0 {
		return nil, works{}
	}
	var ranks []int
	for _, word := range words[:len(words)-1] {
		rank, err := strconv.Atoi(word)
		if err != nil {
			rank = 64
		}
		ranks = append(ranks, rank)
	}
	return ranks, packages()[words[len(words)-1]]
}

// works is what a package does to cells.
type works struct {
	monad func(op int, y api.Array) (api.Array, api.Errno)
	dyad  func(op int, x, y api.Array) (api.Array, api.Errno)
}

func packages() map[string]works {
	return map[string]works{"atom": {atom.Monad, atom.Dyad}, "mold": {mold.Monad, mold.Dyad}, "seek": {seek.Monad, seek.Dyad}, "digit": {digit.Monad, digit.Dyad}}
}

// monadOps, dyadOps, noMonads and noDyads are the ops that have, or have not, that valence.

func opsWhere(is func(l line) bool) []int {
	var out []int
	for _, l := range catalogue() {
		if is(l) {
			out = append(out, l.op)
		}
	}
	return out
}

func monadOps() []int { return opsWhere(func(l line) bool { return l.monad != "" }) }

func dyadOps() []int { return opsWhere(func(l line) bool { return l.dyad != "" }) }

func noMonads() []int { return opsWhere(func(l line) bool { return l.monad == "" }) }

func noDyads() []int { return opsWhere(func(l line) bool { return l.dyad == "" }) }

func allOps() []int { return opsWhere(func(line) bool { return true }) }

// noOps are numbers of no primitive; some are one's by 32, by 16 or by 8 bits.
func noOps() []int {
	return []int{0, -1, -2, -43, -44, 44, 45, 64, 100, 255, 256, 257, 1000, 1<<8 + 1, 1<<8 + 43, 1<<16 + 1, 1<<16 + 43, 1 << 31, 1<<31 + 1, 1 << 32, 1<<32 + 1, 1<<32 + 43, -1<<32 + 1, -1<<32 + 43, 1<<62 + 22, least, least + 1, least + 43, most, most - 1, most - 43}
}
