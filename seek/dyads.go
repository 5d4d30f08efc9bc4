package seek

import (
	"abacus/api"
	"abacus/arr"
)

func from(x, y api.Array) (api.Array, api.Errno) {
	if len(x.Shape) > 0 {
		return api.Array{}, api.ErrRank
	}
	return arr.Item(y, int(x.Atoms[0]))
}

func placeIn(x, y api.Array) (api.Array, api.Errno) {
	found := finderOf(x)
	return eachCell(y, x, func(c api.Array) int64 { return int64(found.first(c)) }), api.OK
}

func isIn(x, y api.Array) (api.Array, api.Errno) {
	found := finderOf(y)
	return eachCell(x, y, func(c api.Array) int64 { return truth(found.has(c)) }), api.OK
}

func sortUp(x, y api.Array) (api.Array, api.Errno) { return sorted(x, y, rising) }

func sortDown(x, y api.Array) (api.Array, api.Errno) { return sorted(x, y, falling) }

// sorted gives the items of x in the order that y's items ask for.
func sorted(x, y api.Array, order func(items []api.Array) []int) (api.Array, api.Errno) {
	if arr.Items(x) != arr.Items(y) {
		return api.Array{}, api.ErrLength
	}
	return chosen(x, order(itemsOf(y))), api.OK
}

func without(x, y api.Array) (api.Array, api.Errno) {
	found := finderOf(y)
	var places []int
	for i, item := range itemsOf(x) {
		if !found.has(item) {
			places = append(places, i)
		}
	}
	return chosen(x, places), api.OK
}

func match(x, y api.Array) (api.Array, api.Errno) {
	return arr.Scalar(truth(arr.Same(x, y))), api.OK
}
