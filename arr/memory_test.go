package arr

import (
	"fmt"
	"slices"
	"sync"
	"testing"

	"abacus/api"
)

// spare is what stands in the spare room of the lists handed in.
const spare = 987654321

// roomyList is a list of the same numbers with spare room behind it.
func roomyList[N int | int64](list []N) []N {
	room := append(slices.Clone(list), spare, spare, spare)
	return room[:len(list)]
}

func roomy(a api.Array) api.Array { return array(roomyList(a.Shape), roomyList(a.Atoms)...) }

// asMade tells whether a roomy list is as it was made.
func asMade[N int | int64](list, was []N) bool {
	return slices.Equal(list, was) && slices.Equal(list[:len(list)+3][len(list):], []N{spare, spare, spare})
}

func untouched(a, was api.Array) bool {
	return asMade(a.Shape, was.Shape) && asMade(a.Atoms, was.Atoms)
}

// spoilList writes into a list, spare room too, numbers by which it is known.
func spoilList[N int | int64](list []N, from N) {
	for i := range list[:cap(list)] {
		list[:cap(list)][i] = from + N(i)
	}
}

func spoiledList[N int | int64](list []N, from N) bool {
	for i, n := range list[:cap(list)] {
		if n != from+N(i) {
			return false
		}
	}
	return true
}

func spoil(a api.Array, from int) {
	spoilList(a.Shape, from)
	spoilList(a.Atoms, int64(from))
}

func spoiled(a api.Array, from int) bool {
	return spoiledList(a.Shape, from) && spoiledList(a.Atoms, int64(from))
}

// called is a call by its name, with the array that it answers and all else that it tells.
type called struct {
	name string
	do   func(a, b api.Array) (api.Array, any)
}

func calls() []called {
	return []called{
		{"May", func(a, b api.Array) (api.Array, any) { return api.Array{}, May(a) }},
		{"Scalar", func(a, b api.Array) (api.Array, any) { return Scalar(5), nil }},
		{"List", func(a, b api.Array) (api.Array, any) { out, e := List(a.Atoms...); return out, e }},
		{"List of one", func(a, b api.Array) (api.Array, any) { out, e := List(5); return out, e }},
		{"Fill", func(a, b api.Array) (api.Array, any) { out, e := Fill(a.Shape, 5); return out, e }},
		{"Same", func(a, b api.Array) (api.Array, any) { return api.Array{}, Same(a, b) }},
		{"Same alike", func(a, b api.Array) (api.Array, any) { return api.Array{}, Same(a, a) }},
		{"Items", func(a, b api.Array) (api.Array, any) { return api.Array{}, Items(a) }},
		{"Item first", func(a, b api.Array) (api.Array, any) { out, e := Item(a, 0); return out, e }},
		{"Item last", func(a, b api.Array) (api.Array, any) { out, e := Item(a, -1); return out, e }},
		{"Item 1", func(a, b api.Array) (api.Array, any) { out, e := Item(a, 1); return out, e }},
		{"Compare", func(a, b api.Array) (api.Array, any) { return api.Array{}, Compare(a, b) }},
		{"Compare back", func(a, b api.Array) (api.Array, any) { return api.Array{}, Compare(b, a) }},
	}
}

// told is all of what a call answers, as text; nil and empty lists look alike there.
func told(c called, a, b api.Array) string {
	out, other := c.do(a, b)
	return fmt.Sprint(out.Shape, out.Atoms, other)
}

// someArrays are arrays that may be and some that may not.
func someArrays() []api.Array {
	var out []api.Array
	for _, c := range goodShapes() {
		out = append(out, array(c.s, numbered(c.size)...))
	}
	for i, c := range wrongArrays() {
		if i%5 == 0 {
			out = append(out, c.a)
		}
	}
	return out
}

// fewArrays stand beside the others.
func fewArrays() []api.Array {
	return []api.Array{{}, array(nil, 5), array(lengths(2), 1, 2), array(lengths(2, 3), 1, 2, 3, 4, 5, 6), array(lengths(0, 3)), array(lengths(-1), 1)}
}

// TestMemory: arrays handed in are as they were, spare room too; what is answered shares nothing with them and with what the same call answers again.
func TestMemory(t *testing.T) {
	for _, wasA := range someArrays() {
		for _, wasB := range fewArrays() {
			for _, c := range calls() {
				a, b := roomy(wasA), roomy(wasB)
				first, _ := c.do(a, b)
				second, _ := c.do(a, b)
				if !untouched(a, wasA) || !untouched(b, wasB) {
					t.Fatalf("P3.6: %s of %v and %v changes them", c.name, brief(wasA), brief(wasB))
				}
				spoil(first, 100000)
				spoil(second, 200000)
				if !untouched(a, wasA) || !untouched(b, wasB) {
					t.Fatalf("P3.6: %s of %v and %v answers memory of theirs", c.name, brief(wasA), brief(wasB))
				}
				if !spoiled(first, 100000) || !spoiled(second, 200000) {
					t.Fatalf("P3.6: %s of %v and %v: two answers share memory", c.name, brief(wasA), brief(wasB))
				}
			}
		}
	}
}

// TestItemsShareNothing: the items of one array share no memory with one another.
func TestItemsShareNothing(t *testing.T) {
	for _, c := range goodShapes() {
		a := array(c.s, numbered(c.size)...)
		var items []api.Array
		for i := range Items(a) {
			item, _ := Item(a, i)
			spoil(item, 100000*(i+1))
			items = append(items, item)
		}
		for i, item := range items {
			if !spoiled(item, 100000*(i+1)) {
				t.Fatalf("P3.6: item %d of shape %v shares memory with another one", i, c.s)
			}
		}
	}
}

// TestSharedArguments: both arrays lie in one memory.
func TestSharedArguments(t *testing.T) {
	shape, atoms := lengths(2, 1, 2, 2), numbered(9)
	wasShape, wasAtoms := slices.Clone(shape), slices.Clone(atoms)
	for rank := range len(shape) + 1 {
		for n := range len(atoms) + 1 {
			for _, c := range calls() {
				out, _ := c.do(array(shape[:rank], atoms[:n]...), array(shape, atoms[n:]...))
				spoil(out, 100000)
				if !slices.Equal(shape, wasShape) || !slices.Equal(atoms, wasAtoms) {
					t.Fatalf("P3.6: %s of %v and %d atoms: the memory became %v and %v", c.name, wasShape[:rank], n, shape, atoms)
				}
			}
		}
	}
}

// TestNotKept: what a call answered stays as it was when what was handed in is changed behind it.
func TestNotKept(t *testing.T) {
	for _, was := range someArrays() {
		for _, c := range calls() {
			a, b := roomy(was), roomy(was)
			out, _ := c.do(a, b)
			want := array(slices.Clone(out.Shape), slices.Clone(out.Atoms)...)
			spoil(a, -50)
			spoil(b, -50)
			if !alike(out, want) {
				t.Errorf("P3.6: %s answered %v, and %v when its arguments were changed", c.name, brief(want), brief(out))
			}
		}
	}
}

// TestArgumentsAlone: spare room, nil instead of empty, what was asked before and what was done with an answer bear on nothing.
func TestArgumentsAlone(t *testing.T) {
	b := array(lengths(2), 1, 2)
	first := map[string]string{}
	for round := range 3 {
		for i, a := range someArrays() {
			for _, c := range calls() {
				key := fmt.Sprint(c.name, " ", i)
				forms := []api.Array{a, roomy(a), array(slices.Clip(slices.Clone(a.Shape)), slices.Clip(slices.Clone(a.Atoms))...), array(append(lengths(), a.Shape...), append([]int64{}, a.Atoms...)...)}
				for _, form := range forms {
					got := told(c, form, b)
					if want, ok := first[key]; ok && got != want {
						t.Fatalf("P3.6: %s of %v, round %d: %.200s; before: %.200s", c.name, brief(a), round, got, want)
					}
					first[key] = got
				}
				out, _ := c.do(a, b)
				spoil(out, -7)
			}
		}
	}
}

// TestAtATime: from several goroutines at a time the calls answer what they answer alone.
func TestAtATime(t *testing.T) {
	a, b := array(lengths(2, 3), 1, 2, 3, 4, 5, 6), array(lengths(2, 3), 1, 2, 3, 4, 5, 7)
	var group sync.WaitGroup
	for _, c := range calls() {
		want := told(c, a, b)
		for range 4 {
			group.Go(func() {
				for range 50 {
					if got := told(c, a, b); got != want {
						t.Errorf("P3.6: %s at a time with others: %s; alone: %s", c.name, got, want)
						return
					}
				}
			})
		}
	}
	group.Wait()
}
