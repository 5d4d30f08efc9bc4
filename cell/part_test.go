package cell

import (
	"slices"
	"testing"

	"abacus/api"
)

func checkPart(t *testing.T, y api.Array, from, n int, want api.Array, e api.Errno) {
	t.Helper()
	got, gotE := Part(y, from, n)
	if gotE != e || !alike(got, want) {
		t.Errorf("P4.3: Part(%s, %d, %d): %s, %v; want %s, %v", brief(y), from, n, brief(got), gotE, brief(want), e)
	}
}

// itemsOf are the items of an array that may be; a scalar counts as a list of one atom.
func itemsOf(y api.Array) []api.Array {
	if len(y.Shape) == 0 {
		return []api.Array{y}
	}
	return wantedCells(y, -1).Cells
}

// itemLengths is the shape of an item.
func itemLengths(y api.Array) []int {
	if len(y.Shape) == 0 {
		return nil
	}
	return y.Shape[1:]
}

// inRow lays items one behind the other.
func inRow(inner []int, items []api.Array) api.Array {
	out := api.Array{Shape: append(lengths(len(items)), inner...)}
	for _, item := range items {
		out.Atoms = append(out.Atoms, item.Atoms...)
	}
	return out
}

func TestPartExamples(t *testing.T) {
	checkPart(t, table(), 1, 1, array(lengths(1, 3), 4, 5, 6), api.OK)
	checkPart(t, table(), 0, 0, array(lengths(0, 3)), api.OK)
	checkPart(t, table(), 2, 1, api.Array{}, api.ErrIndex)
	checkPart(t, scalar(7), 0, 1, list(7), api.OK)
}

// TestPartEdges: scalars, arrays without items and items without atoms.
func TestPartEdges(t *testing.T) {
	checkPart(t, scalar(7), 0, 0, list(), api.OK)
	checkPart(t, scalar(7), 1, 0, list(), api.OK)
	checkPart(t, scalar(7), 1, 1, api.Array{}, api.ErrIndex)
	checkPart(t, scalar(7), 0, 2, api.Array{}, api.ErrIndex)
	checkPart(t, scalar(7), -1, 1, api.Array{}, api.ErrIndex)
	checkPart(t, list(), 0, 0, list(), api.OK)
	checkPart(t, list(), 0, 1, api.Array{}, api.ErrIndex)
	checkPart(t, list(), 1, 0, api.Array{}, api.ErrIndex)
	checkPart(t, array(lengths(0, 4096)), 0, 0, array(lengths(0, 4096)), api.OK)
	checkPart(t, array(lengths(3, 0)), 1, 2, array(lengths(2, 0)), api.OK)
	checkPart(t, array(lengths(3, 0)), 3, 0, array(lengths(0, 0)), api.OK)
	checkPart(t, array(lengths(3, 0)), 2, 2, api.Array{}, api.ErrIndex)
	checkPart(t, table(), 2, 0, array(lengths(0, 3)), api.OK)
	checkPart(t, table(), 3, 0, api.Array{}, api.ErrIndex)
	checkPart(t, table(), 0, 2, table(), api.OK)
	checkPart(t, list(7, 8, 9), 1, 2, list(8, 9), api.OK)
}

// TestPart: all parts of all shapes, and those beyond them.
func TestPart(t *testing.T) {
	for _, s := range goodShapes() {
		y := numbered(s...)
		items := itemsOf(y)
		for _, from := range someNumbers(len(items)) {
			for _, n := range someNumbers(len(items)) {
				if from < 0 || n < 0 || from > len(items) || n > len(items) || len(items[from:]) < n {
					checkPart(t, y, from, n, api.Array{}, api.ErrIndex)
					continue
				}
				checkPart(t, y, from, n, inRow(itemLengths(y), items[from:][:n]), api.OK)
			}
		}
	}
}

// someNumbers are those about 0 and a tally, and the far ones, with which a sum would wrap round.
func someNumbers(tally int) []int {
	out := []int{-1, -2, -4096, least, least + 1, most, most - 1, most - tally, most - tally + 1, 1 << 62, 1 << 32, 4097}
	for n := range min(tally, 6) + 3 {
		out = append(out, n, tally-n)
	}
	return out
}

func TestPartWrong(t *testing.T) {
	for _, y := range append(wrongArrays(), api.Array{}) {
		for _, c := range [][2]int{{0, 0}, {0, 1}, {-1, 0}, {0, -1}, {1, 1}, {most, most}, {least, least}} {
			checkPart(t, y, c[0], c[1], api.Array{}, api.ErrArg)
		}
	}
}

func checkPieces(t *testing.T, y api.Array, n int64, want []api.Piece, like api.Array, e api.Errno) {
	t.Helper()
	got, gotLike, gotE := Pieces(y, n)
	if gotE != e || !slices.Equal(got, want) || !alike(gotLike, like) {
		t.Errorf("P4.4: Pieces(%s, %d): %v, %s, %v; want %v, %s, %v", brief(y), n, got[:min(len(got), 12)], brief(gotLike), gotE, want[:min(len(want), 12)], brief(like), e)
	}
}

func piece(from, n int) api.Piece { return api.Piece{From: from, N: n} }

func TestPiecesExamples(t *testing.T) {
	five := list(1, 2, 3, 4, 5)
	checkPieces(t, five, 2, []api.Piece{piece(0, 2), piece(1, 2), piece(2, 2), piece(3, 2)}, api.Array{}, api.OK)
	checkPieces(t, five, -2, []api.Piece{piece(0, 2), piece(2, 2), piece(4, 1)}, api.Array{}, api.OK)
	checkPieces(t, five, 7, nil, zeros(7), api.OK)
	checkPieces(t, table(), 0, nil, api.Array{}, api.ErrDomain)
	checkPieces(t, table(), 4097, nil, api.Array{}, api.ErrSize)
	checkPieces(t, array(lengths(0, 3)), api.Min, nil, api.Array{}, api.ErrSize)
	checkPieces(t, array(lengths(0, 3)), -2, nil, zeros(2, 3), api.OK)
}

// TestPiecesEdges: scalars, arrays without items and without atoms, the least number.
func TestPiecesEdges(t *testing.T) {
	one := []api.Piece{piece(0, 1)}
	checkPieces(t, scalar(7), 1, one, api.Array{}, api.OK)
	checkPieces(t, scalar(7), -1, one, api.Array{}, api.OK)
	checkPieces(t, scalar(7), -5, one, api.Array{}, api.OK)
	checkPieces(t, scalar(7), api.Min, one, api.Array{}, api.OK)
	checkPieces(t, scalar(7), 2, nil, zeros(2), api.OK)
	checkPieces(t, scalar(7), 4096, nil, zeros(4096), api.OK)
	checkPieces(t, scalar(7), 4097, nil, api.Array{}, api.ErrSize)
	checkPieces(t, scalar(7), api.Max, nil, api.Array{}, api.ErrSize)
	checkPieces(t, scalar(7), 0, nil, api.Array{}, api.ErrDomain)
	checkPieces(t, list(), 1, nil, zeros(1), api.OK)
	checkPieces(t, list(), -1, nil, zeros(1), api.OK)
	checkPieces(t, list(), -4096, nil, zeros(4096), api.OK)
	checkPieces(t, list(), -4097, nil, api.Array{}, api.ErrSize)
	checkPieces(t, list(), api.Min, nil, api.Array{}, api.ErrSize)
	checkPieces(t, list(), 0, nil, api.Array{}, api.ErrDomain)
	checkPieces(t, array(lengths(0, 0)), 4096, nil, array(lengths(4096, 0)), api.OK)
	checkPieces(t, array(lengths(0, 0)), -4097, nil, api.Array{}, api.ErrSize)
	checkPieces(t, array(lengths(3, 0)), 2, []api.Piece{piece(0, 2), piece(1, 2)}, api.Array{}, api.OK)
	checkPieces(t, array(lengths(3, 0)), 4, nil, array(lengths(4, 0)), api.OK)
	checkPieces(t, table(), api.Min, []api.Piece{piece(0, 2)}, api.Array{}, api.OK)
	checkPieces(t, table(), api.Min+1, []api.Piece{piece(0, 2)}, api.Array{}, api.OK)
	checkPieces(t, table(), 1365, nil, zeros(1365, 3), api.OK)
	checkPieces(t, table(), 1366, nil, api.Array{}, api.ErrSize)
	checkPieces(t, array(lengths(0, 3)), -1365, nil, zeros(1365, 3), api.OK)
	checkPieces(t, array(lengths(0, 3)), -1366, nil, api.Array{}, api.ErrSize)
	// Cut to 32 bits these would be 2 and -2.
	checkPieces(t, table(), 1<<32+2, nil, api.Array{}, api.ErrSize)
	checkPieces(t, table(), -1<<32-1, []api.Piece{piece(0, 2)}, api.Array{}, api.OK)
	checkPieces(t, array(lengths(0, 3)), -1<<32-2, nil, api.Array{}, api.ErrSize)
}

// wantedPieces tells the pieces by going along the items and asking at each one whether a piece begins there.
func wantedPieces(items int, n int64) []api.Piece {
	var out []api.Piece
	for from := range items {
		left := items - from
		switch {
		case n > 0 && int64(left) >= n:
			out = append(out, piece(from, int(n)))
		case n < 0 && (from == 0 || int64(from)%n == 0):
			count := 0
			for count < left && (count == 0 || int64(from+count)%n != 0) {
				count++
			}
			out = append(out, piece(from, count))
		}
	}
	return out
}

// wantedLike is what is tried where there are no pieces.
func wantedLike(y api.Array, n int64) (api.Array, api.Errno) {
	if n > 4096 || n < -4096 {
		return api.Array{}, api.ErrSize
	}
	s := append(lengths(int(max(n, -n))), itemLengths(y)...)
	if !mayBe(s) {
		return api.Array{}, api.ErrSize
	}
	return zeros(s...), api.OK
}

// TestPieces: pieces of all shapes; and each piece is a part.
func TestPieces(t *testing.T) {
	for _, s := range goodShapes() {
		y := numbered(s...)
		tally := len(itemsOf(y))
		for _, k := range append(someNumbers(tally), 4096, 1366, 1365, -4097, -4095, -5, -7) {
			for _, n := range []int64{int64(k), -int64(k)} {
				if n == 0 {
					continue
				}
				want := wantedPieces(tally, n)
				if len(want) > 0 {
					checkPieces(t, y, n, want, api.Array{}, api.OK)
					continue
				}
				like, e := wantedLike(y, n)
				checkPieces(t, y, n, nil, like, e)
			}
		}
		if t.Failed() {
			return
		}
	}
}

// TestPiecesAreParts: each piece can be cut out.
func TestPiecesAreParts(t *testing.T) {
	for _, s := range goodShapes() {
		y := numbered(s...)
		for _, n := range []int64{1, 2, 3, 5, -1, -2, -3, -5, api.Min} {
			pieces, _, _ := Pieces(y, n)
			for _, p := range pieces {
				if _, e := Part(y, p.From, p.N); e != api.OK {
					t.Fatalf("P4.4: Pieces(%s, %d) tells %v: %v", brief(y), n, p, e)
				}
			}
		}
	}
}

// TestPiecesWrong: an array that may not be goes ahead of a wrong number.
func TestPiecesWrong(t *testing.T) {
	for _, y := range append(wrongArrays(), api.Array{}) {
		for _, n := range []int64{0, 1, -1, 2, 4097, api.Min, api.Max} {
			checkPieces(t, y, n, nil, api.Array{}, api.ErrArg)
		}
	}
}
