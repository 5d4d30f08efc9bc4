package seek

import (
	"slices"

	"abacus/api"
	"abacus/arr"
)

// cut tells the cells below so many of an array's lengths, and zeros for a number of each of them. The cells lie in the array's own memory, so they are only read.
func cut(a api.Array, ahead int) (api.Array, []api.Array) {
	// A part of a shape that may be is one itself, so this is not refused.
	zeros, _ := arr.Fill(a.Shape[:ahead], 0)
	cells := make([]api.Array, len(zeros.Atoms))
	for i := range cells {
		size := len(a.Atoms) / len(cells)
		cells[i] = api.Array{Shape: a.Shape[ahead:], Atoms: a.Atoms[i*size : (i+1)*size]}
	}
	return zeros, cells
}

func itemsOf(a api.Array) []api.Array {
	_, items := cut(a, min(1, len(a.Shape)))
	return items
}

// eachCell tells a number for each cell of an array that has the rank of an item of another one.
func eachCell(a, like api.Array, tell func(c api.Array) int64) api.Array {
	rank := max(0, len(like.Shape)-1)
	out, cells := cut(a, max(0, len(a.Shape)-rank))
	for i, c := range cells {
		out.Atoms[i] = tell(c)
	}
	return out
}

// chosen gives the items at these places, one behind the other.
func chosen(a api.Array, places []int) api.Array {
	out := api.Array{Shape: []int{len(places)}}
	if len(a.Shape) > 0 {
		out.Shape = append(out.Shape, a.Shape[1:]...)
	}
	items := itemsOf(a)
	for _, place := range places {
		out.Atoms = append(out.Atoms, items[place].Atoms...)
	}
	return out
}

// order tells the places of items as they follow one another; those that are the same stay in the order of their places.
func order(items []api.Array, compare func(a, b api.Array) int) []int {
	places := make([]int, len(items))
	for i := range places {
		places[i] = i
	}
	slices.SortStableFunc(places, func(i, j int) int { return compare(items[i], items[j]) })
	return places
}

func rising(items []api.Array) []int { return order(items, arr.Compare) }

func falling(items []api.Array) []int {
	return order(items, func(a, b api.Array) int { return arr.Compare(b, a) })
}

// finder has an array's items and their places as they rise, so that one of them is found without a look at each.
type finder struct {
	items  []api.Array
	places []int
}

func finderOf(a api.Array) finder {
	items := itemsOf(a)
	return finder{items, rising(items)}
}

// first tells the place of the first item that is the same; the tally, if there is none.
func (f finder) first(a api.Array) int {
	// Of items that are the same the foremost stands first among the places, and the search ends at the first that fits.
	i, found := slices.BinarySearchFunc(f.places, a, func(place int, a api.Array) int { return arr.Compare(f.items[place], a) })
	if !found {
		return len(f.items)
	}
	return f.places[i]
}

func (f finder) has(a api.Array) bool { return f.first(a) < len(f.items) }

// firsts tells for each item the place of the first one that is the same.
func (f finder) firsts() []int {
	out := make([]int, len(f.items))
	for i, item := range f.items {
		out[i] = f.first(item)
	}
	return out
}
