package arr

import (
	"testing"

	"abacus/api"
)

// parts are the items of an array that may be, told by dealing its atoms out: a counter for each axis runs along, the last one fastest, and the first one says whose the atom is.
func parts(a api.Array) []api.Array {
	if len(a.Shape) == 0 {
		return []api.Array{a}
	}
	out := make([]api.Array, a.Shape[0])
	for i := range out {
		out[i].Shape = a.Shape[1:]
	}
	at := make([]int, len(a.Shape))
	for _, atom := range a.Atoms {
		out[at[0]].Atoms = append(out[at[0]].Atoms, atom)
		for axis := len(at) - 1; axis >= 0; axis-- {
			at[axis]++
			if at[axis] < a.Shape[axis] {
				break
			}
			at[axis] = 0
		}
	}
	return out
}

func checkItems(t *testing.T, a api.Array, want int) {
	t.Helper()
	if n := Items(a); n != want {
		t.Errorf("P3.4: Items of %v (%d atoms): %d; want %d", brief(a), len(a.Atoms), n, want)
	}
}

func checkItem(t *testing.T, a api.Array, i int, want api.Array, e api.Errno) {
	t.Helper()
	got, gotE := Item(a, i)
	if gotE != e || !alike(got, want) {
		t.Errorf("P3.4: Item(%v (%d atoms), %d): %v, %v; want %v, %v", brief(a), len(a.Atoms), i, brief(got), gotE, brief(want), e)
	}
}

func TestItemsExamples(t *testing.T) {
	table := array(lengths(2, 3), 1, 2, 3, 4, 5, 6)
	checkItems(t, array(nil, 5), 1)
	checkItems(t, array(lengths(0, 3)), 0)
	checkItems(t, table, 2)
	checkItem(t, table, -1, array(lengths(3), 4, 5, 6), api.OK)
	checkItem(t, table, 2, api.Array{}, api.ErrIndex)
	checkItem(t, array(nil, 5), 0, array(nil, 5), api.OK)
	checkItem(t, array(nil, 5), -1, array(nil, 5), api.OK)
}

func TestItemOfList(t *testing.T) {
	list := array(lengths(3), 7, 8, 9)
	checkItems(t, list, 3)
	checkItem(t, list, 0, array(nil, 7), api.OK)
	checkItem(t, list, 2, array(nil, 9), api.OK)
	checkItem(t, list, -3, array(nil, 7), api.OK)
	checkItem(t, list, -2, array(nil, 8), api.OK)
	checkItem(t, list, 3, api.Array{}, api.ErrIndex)
	checkItem(t, list, -4, api.Array{}, api.ErrIndex)
}

// TestItemsOfNone: items without atoms are items; where the first length is 0 there are none.
func TestItemsOfNone(t *testing.T) {
	checkItems(t, array(lengths(0)), 0)
	checkItems(t, array(lengths(3, 0)), 3)
	checkItems(t, array(lengths(4096, 0)), 4096)
	checkItem(t, array(lengths(3, 0)), 2, array(lengths(0)), api.OK)
	checkItem(t, array(lengths(3, 0)), -3, array(lengths(0)), api.OK)
	checkItem(t, array(lengths(3, 0)), 3, api.Array{}, api.ErrIndex)
	checkItem(t, array(lengths(2, 0, 4)), 1, array(lengths(0, 4)), api.OK)
	for _, i := range []int{0, -1, 1, least, most} {
		checkItem(t, array(lengths(0)), i, api.Array{}, api.ErrIndex)
		checkItem(t, array(lengths(0, 3)), i, api.Array{}, api.ErrIndex)
		checkItem(t, array(lengths(0, 4096)), i, api.Array{}, api.ErrIndex)
	}
}

// TestItems: all items of all shapes, counted from both ends, and the indices beyond them.
func TestItems(t *testing.T) {
	for _, c := range goodShapes() {
		a := array(c.s, numbered(c.size)...)
		want := parts(a)
		n := len(want)
		checkItems(t, a, n)
		for i, item := range want {
			checkItem(t, a, i, item, api.OK)
			checkItem(t, a, i-n, item, api.OK)
		}
		for _, i := range []int{n, n + 1, -n - 1, -n - 2, 4096, 4097, -4097, 1 << 32, most, least, least + 1, least + n} {
			if i < -n || i >= n {
				checkItem(t, a, i, api.Array{}, api.ErrIndex)
			}
		}
	}
}

// TestItemMay: an item is an array that may be.
func TestItemMay(t *testing.T) {
	for _, c := range goodShapes() {
		a := array(c.s, numbered(c.size)...)
		for i := range Items(a) {
			if item, _ := Item(a, i); May(item) != api.OK {
				t.Errorf("P3.4: item %d of shape %v may not be: %v", i, c.s, brief(item))
			}
		}
	}
}

// TestItemsWrong: an array that may not be has no items, and that is told ahead of a wrong index.
func TestItemsWrong(t *testing.T) {
	for _, c := range wrongArrays() {
		checkItems(t, c.a, 0)
		for _, i := range []int{0, 1, -1, 4096, least, most} {
			checkItem(t, c.a, i, api.Array{}, api.ErrArg)
		}
	}
	checkItems(t, api.Array{}, 0)
	checkItem(t, api.Array{}, 0, api.Array{}, api.ErrArg)
}
