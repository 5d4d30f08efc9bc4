package cell

import (
	"slices"

	"abacus/api"
	"abacus/arr"
	"abacus/shape"
)

// Part gives some items in a row.
func Part(y api.Array, from, n int) (api.Array, api.Errno) {
	if arr.May(y) != api.OK {
		return api.Array{}, api.ErrArg
	}
	items := arr.Items(y)
	// Held against a difference, since from + n might wrap round.
	if from < 0 || n < 0 || n > items-from {
		return api.Array{}, api.ErrIndex
	}
	item := itemShape(y)
	size, _ := shape.Size(item)
	return api.Array{Shape: slices.Insert(item, 0, n), Atoms: slices.Clone(y.Atoms[from*size : (from+n)*size])}, api.OK
}

// Pieces tells which items the pieces of n are; and what is tried, if there are none.
func Pieces(y api.Array, n int64) ([]api.Piece, api.Array, api.Errno) {
	if arr.May(y) != api.OK {
		return nil, api.Array{}, api.ErrArg
	}
	if n == 0 {
		return nil, api.Array{}, api.ErrDomain
	}
	pieces := piecesOf(arr.Items(y), n)
	if len(pieces) > 0 {
		return pieces, api.Array{}, api.OK
	}
	// All lengths beyond MaxAtoms are refused alike; the greatest one is no int.
	length := int(min(magnitude(n), api.MaxAtoms+1))
	like, e := arr.Fill(slices.Insert(itemShape(y), 0, length), 0)
	return nil, like, e
}

// piecesOf tells the pieces of n, which is not 0, of so many items.
func piecesOf(items int, n int64) []api.Piece {
	if n > 0 {
		return windows(items, int(n))
	}
	// A piece has no more than all items; so held it is an int.
	return chunks(items, int(min(magnitude(n), uint64(items))))
}

// windows tells the pieces that begin at each item that has n - 1 behind it.
func windows(items, n int) []api.Piece {
	var pieces []api.Piece
	for from := range items - n + 1 {
		pieces = append(pieces, api.Piece{From: from, N: n})
	}
	return pieces
}

// chunks tells the pieces of n one behind the other.
func chunks(items, n int) []api.Piece {
	var pieces []api.Piece
	for from := 0; from < items; from += n {
		pieces = append(pieces, api.Piece{From: from, N: min(n, items-from)})
	}
	return pieces
}

// magnitude tells a number without its sign; that of the least one fits no int64.
func magnitude(n int64) uint64 {
	if n < 0 {
		return -uint64(n)
	}
	return uint64(n)
}

// itemShape tells an item's shape in a list of its own; a scalar counts as a list of one atom.
func itemShape(y api.Array) []int {
	_, item := shape.Split(y.Shape, -1)
	return item
}
