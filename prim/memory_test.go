package prim

import (
	"fmt"
	"slices"
	"sync"
	"testing"

	"abacus/api"
)

// spare is what stands in the spare room of the lists handed in.
const spare = 987654321

// roomyList is a list of the same numbers with spare room behind it.
func roomyList[N int | int64](list []N) []N {
	room := append(slices.Clone(list), spare, spare, spare)
	return room[:len(list)]
}

func roomy(a api.Array) api.Array { return array(roomyList(a.Shape), roomyList(a.Atoms)...) }

// asMade tells whether a roomy list is as it was made.
func asMade[N int | int64](list, was []N) bool {
	return slices.Equal(list, was) && slices.Equal(list[:len(list)+3][len(list):], []N{spare, spare, spare})
}

func untouched(a, was api.Array) bool {
	return asMade(a.Shape, was.Shape) && asMade(a.Atoms, was.Atoms)
}

// fill writes one number all over a list, its spare room too.
func fill[N int | int64](list []N, with N) {
	for i := range list[:cap(list)] {
		list[:cap(list)][i] = with
	}
}

// spoil writes into both lists of an array, spare room too, numbers by which they are known.
func spoil(a api.Array, with int) {
	fill(a.Shape, with)
	fill(a.Atoms, int64(with)+1)
}

func filled[N int | int64](list []N, with N) bool {
	return !slices.ContainsFunc(list[:cap(list)], func(n N) bool { return n != with })
}

func spoiled(a api.Array, with int) bool {
	return filled(a.Shape, with) && filled(a.Atoms, int64(with)+1)
}

// called is a call by its name; answers: there is a row for it.
type called struct {
	name    string
	answers bool
	do      func(x, y api.Array) (api.Array, api.Errno)
}

func calls() []called {
	var out []called
	for _, l := range catalogue() {
		monad, dyad := l.monad != "", l.dyad != ""
		out = append(out,
			called{"Monad of " + l.spelling, monad, func(x, y api.Array) (api.Array, api.Errno) { return Monad(l.op, x) }},
			called{"Dyad of " + l.spelling, dyad, func(x, y api.Array) (api.Array, api.Errno) { return Dyad(l.op, x, y) }},
			called{"Dyad, the sides swapped, of " + l.spelling, dyad, func(x, y api.Array) (api.Array, api.Errno) { return Dyad(l.op, y, x) }},
			called{"Dyad of one twice, of " + l.spelling, dyad, func(x, y api.Array) (api.Array, api.Errno) { return Dyad(l.op, x, x) }})
	}
	return out
}

// someArrays are arrays that may be, among them such as every row takes, by one cell and by several, and some that may not be.
func someArrays() []api.Array {
	out := []api.Array{{}, array(lengths(2), 1), array(lengths(-1), 1), array(times(9, 1), 1), list(1, api.Min, 0), list(0, 0), scalar(0), scalar(3), scalar(-1), scalar(api.Min), table(), threeTwo(), list(2, 1, 2), list(1, 2), list(2, -3), list(4096, 1)}
	for _, s := range fewShapes() {
		out = append(out, counting(2, s...))
	}
	return append(out, numbered(2, 3), numbered(3), numbered(2, 3, 2, 2), counting(3, 3, 3), counting(3, 2, 3, 3))
}

// fewArrays stand beside the others.
func fewArrays() []api.Array {
	return []api.Array{{}, scalar(1), scalar(0), list(1, 0), list(2, -1, 2), list(), table(), array(lengths(2, 2), 1, 0, 1, 1), array(lengths(3, 1), 0, 1, 0), array(lengths(0, 3)), array(lengths(3, 0)), array(lengths(-1), 1), numbered(2, 3, 4)}
}

// TestMemory: arrays handed in are as they were, spare room too; no list that is answered shares anything with them, with the other list of the answer, or with what the same call answers again.
func TestMemory(t *testing.T) {
	answered := map[string]int{}
	for _, wasX := range someArrays() {
		for _, wasY := range fewArrays() {
			for _, c := range calls() {
				x, y := roomy(wasX), roomy(wasY)
				first, e := c.do(x, y)
				second, _ := c.do(x, y)
				if e == api.OK {
					answered[c.name]++
				}
				if !untouched(x, wasX) || !untouched(y, wasY) {
					t.Fatalf("P9.7: %s of %s and %s changes them", c.name, brief(wasX), brief(wasY))
				}
				spoil(first, 1000)
				spoil(second, 2000)
				if !untouched(x, wasX) || !untouched(y, wasY) {
					t.Fatalf("P9.7: %s of %s and %s answers memory of theirs", c.name, brief(wasX), brief(wasY))
				}
				if !spoiled(first, 1000) || !spoiled(second, 2000) {
					t.Fatalf("P9.7: %s of %s and %s: two lists that are answered share memory", c.name, brief(wasX), brief(wasY))
				}
			}
		}
	}
	for _, c := range calls() {
		if c.answers && answered[c.name] < 20 {
			t.Errorf("the test itself: %s was OK %d times", c.name, answered[c.name])
		}
	}
}

// TestSharedArguments: both arrays lie in one memory.
func TestSharedArguments(t *testing.T) {
	lengthsAll, atomsAll := lengths(2, 2, 2), []int64{2, 1, 3, 2, 1, 4, 2, 1}
	wasLengths, wasAtoms := slices.Clone(lengthsAll), slices.Clone(atomsAll)
	for m := range len(lengthsAll) + 1 {
		for n := range len(lengthsAll) + 1 {
			for _, c := range calls() {
				x := array(lengthsAll[:m], atomsAll[:1<<m]...)
				y := array(lengthsAll[:n], atomsAll[8-1<<n:]...)
				a, e := c.do(x, y)
				want, wantE := c.do(array(slices.Clone(x.Shape), slices.Clone(x.Atoms)...), array(slices.Clone(y.Shape), slices.Clone(y.Atoms)...))
				if e != wantE || !alike(a, want) {
					t.Fatalf("P9.7: %s of arrays in one memory: %s, %v; else %s, %v", c.name, brief(a), e, brief(want), wantE)
				}
				spoil(a, 1000)
				if !slices.Equal(lengthsAll, wasLengths) || !slices.Equal(atomsAll, wasAtoms) {
					t.Fatalf("P9.7: %s: the memory of its arguments became %v and %v", c.name, lengthsAll, atomsAll)
				}
			}
		}
	}
}

// TestNotKept: what a call answered stays as it was when what was handed in is changed behind it.
func TestNotKept(t *testing.T) {
	for _, wasX := range someArrays() {
		for _, wasY := range fewArrays() {
			for _, c := range calls() {
				x, y := roomy(wasX), roomy(wasY)
				a, _ := c.do(x, y)
				was := array(slices.Clone(a.Shape), slices.Clone(a.Atoms)...)
				spoil(x, -50)
				spoil(y, -60)
				if !alike(a, was) {
					t.Fatalf("P9.7: %s answered %s, and %s when its arguments were changed", c.name, brief(was), brief(a))
				}
			}
		}
	}
}

// forms are ways to hand in one array: with and without spare room, with empty lists instead of nil ones.
func forms(a api.Array) []api.Array {
	return []api.Array{a, roomy(a), array(slices.Clip(slices.Clone(a.Shape)), slices.Clip(slices.Clone(a.Atoms))...), array(append(lengths(), a.Shape...), append([]int64{}, a.Atoms...)...)}
}

// TestArgumentsAlone: spare room, nil instead of empty, what was asked before and what was done with an answer bear on nothing.
func TestArgumentsAlone(t *testing.T) {
	type answer struct {
		a api.Array
		e api.Errno
	}
	first := map[string]answer{}
	for round := range 2 {
		for i, x := range someArrays() {
			for _, c := range calls() {
				for j, y := range []api.Array{scalar(5), list(1, 0, 1), table()} {
					key := fmt.Sprint(c.name, " ", i, " ", j)
					for k, form := range forms(x) {
						a, e := c.do(form, forms(y)[k])
						if want, ok := first[key]; ok && (e != want.e || !alike(a, want.a)) {
							t.Fatalf("P9.7: %s of %s and %s, round %d: %s, %v; before: %s, %v", c.name, brief(x), brief(y), round, brief(a), e, brief(want.a), want.e)
						}
						first[key] = answer{array(slices.Clone(a.Shape), slices.Clone(a.Atoms)...), e}
						spoil(a, -7)
					}
				}
			}
		}
	}
}

// TestAtATime: from several goroutines at a time the calls answer what they answer alone.
func TestAtATime(t *testing.T) {
	var group sync.WaitGroup
	for _, xy := range [][2]api.Array{{list(1, 0), table()}, {array(lengths(2, 2), 0, 1, 1, 0), list(1, 2)}, {scalar(1), counting(2, 2, 3, 2)}} {
		for _, c := range calls() {
			x, y := xy[0], xy[1]
			want, wantE := c.do(x, y)
			for range 4 {
				group.Go(func() {
					for range 10 {
						if got, e := c.do(x, y); e != wantE || !alike(got, want) {
							t.Errorf("P9.7: %s at a time with others: %s, %v; alone: %s, %v", c.name, brief(got), e, brief(want), wantE)
							return
						}
					}
				})
			}
		}
	}
	group.Wait()
}

// TestCatalogueAlone: what Of and Info tell hangs on nothing that was asked or done before, at a time with others too.
func TestCatalogueAlone(t *testing.T) {
	var group sync.WaitGroup
	for range 8 {
		group.Go(func() {
			for range 20 {
				for _, l := range catalogue() {
					if op, has := Of(l.spelling); op != l.op || !has {
						t.Errorf("P9.7: Of(%q): %d, %v", l.spelling, op, has)
					}
					p, e := Info(l.op)
					if p != wantedInfo(l) || e != api.OK {
						t.Errorf("P9.7: Info(%d): %+v, %v", l.op, p, e)
					}
					p.Ranks[0], p.Spelling = 7, ""
				}
			}
		})
	}
	group.Wait()
}
