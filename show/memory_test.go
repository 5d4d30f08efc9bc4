package show

import (
	"slices"
	"strings"
	"sync"
	"testing"

	"abacus/api"
)

// spare is what stands in the spare room of the lists handed in.
const spare = 987654321

// roomyList is a list of the same numbers with spare room behind it.
func roomyList[N int | int64](list []N) []N {
	room := append(slices.Clone(list), spare, spare, spare)
	return room[:len(list)]
}

func roomy(a api.Array) api.Array { return array(roomyList(a.Shape), roomyList(a.Atoms)...) }

// asMade tells whether a roomy list is as it was made.
func asMade[N int | int64](list, was []N) bool {
	return slices.Equal(list, was) && slices.Equal(list[:len(list)+3][len(list):], []N{spare, spare, spare})
}

func untouched(a, was api.Array) bool {
	return asMade(a.Shape, was.Shape) && asMade(a.Atoms, was.Atoms)
}

// fill writes one number all over a list, its spare room too.
func fill[N int | int64](list []N, with N) {
	for i := range list[:cap(list)] {
		list[:cap(list)][i] = with
	}
}

// spoil writes into both lists of an array, spare room too, numbers by which they are known.
func spoil(a api.Array, with int) {
	fill(a.Shape, with)
	fill(a.Atoms, int64(with)+1)
}

func filled[N int | int64](list []N, with N) bool {
	return !slices.ContainsFunc(list[:cap(list)], func(n N) bool { return n != with })
}

func spoiled(a api.Array, with int) bool {
	return filled(a.Shape, with) && filled(a.Atoms, int64(with)+1)
}

// writer is a call that writes, by its name.
type writer struct {
	name string
	do   func(api.Array) (string, api.Errno)
}

func writers() []writer { return []writer{{"Text", Text}, {"Flat", Flat}} }

// someArrays are arrays of every shape, and such as may not be.
func someArrays() []api.Array {
	out := wrongArrays()
	for _, s := range goodShapes() {
		out = append(out, zeros(s...), numbered(s...))
	}
	return out
}

// someTexts are lines of arrays, and such as are none.
func someTexts() []string {
	out := strings.Split(";7;_5;1 2 3;0 $;1 $ 7;2 2 $ 1 2 3 4;0 3 $;1 1 1 1 1 1 1 1 $ 5;1  2;01;_;2 $ 1 2;2 2 $ 1;_1 $;5000 $;$ 1;9223372036854775808;1 $1", ";")
	for _, s := range goodShapes() {
		out = append(out, wantedFlat(numbered(s...)))
	}
	return append(out, ones(4097), strings.Repeat("1", 1<<20+1))
}

// TestWriteMemory: arrays handed in are as they were, spare room too; a text that was answered stays when they are changed behind the call.
func TestWriteMemory(t *testing.T) {
	for _, was := range someArrays() {
		for _, w := range writers() {
			a := roomy(was)
			s, _ := w.do(a)
			if !untouched(a, was) {
				t.Fatalf("P10.5: %s of %s changes it", w.name, brief(was))
			}
			kept := strings.Clone(s)
			spoil(a, -50)
			if s != kept {
				t.Fatalf("P10.5: %s of %s answered %s, and %s when that was changed", w.name, brief(was), short(kept), short(s))
			}
		}
	}
}

// TestReadMemory: no list that is answered shares anything with the other one, or with what the same text answers again.
func TestReadMemory(t *testing.T) {
	for _, s := range someTexts() {
		first, _, _ := Read(s)
		second, _, _ := Read(s)
		spoil(first, 1000)
		spoil(second, 2000)
		if !spoiled(first, 1000) || !spoiled(second, 2000) {
			t.Fatalf("P10.5: Read(%s): two lists that are answered share memory", short(s))
		}
		want, place, e := wantedRead(s)
		checkRead(t, s, want, place, e)
	}
}

// forms are ways to hand in one array: with and without spare room, with empty lists instead of nil ones.
func forms(a api.Array) []api.Array {
	return []api.Array{a, roomy(a), array(slices.Clip(slices.Clone(a.Shape)), slices.Clip(slices.Clone(a.Atoms))...), array(append(lengths(), a.Shape...), append([]int64{}, a.Atoms...)...)}
}

// TestArgumentsAlone: spare room, nil instead of empty, and what was asked before bear on nothing.
func TestArgumentsAlone(t *testing.T) {
	for _, w := range writers() {
		var first []string
		for round := range 2 {
			for i, a := range someArrays() {
				for _, form := range forms(a) {
					s, e := w.do(form)
					if answer := s + e.Error(); i == len(first) {
						first = append(first, answer)
					} else if answer != first[i] {
						t.Fatalf("P10.5: %s of %s, round %d: %s; before: %s", w.name, brief(a), round, short(answer), short(first[i]))
					}
				}
			}
		}
	}
	for round := range 2 {
		for _, s := range someTexts() {
			want, place, e := wantedRead(s)
			checkRead(t, s, want, place, e)
			// The same bytes elsewhere, and as a piece of a longer text.
			checkRead(t, strings.Clone(s), want, place, e)
			checkRead(t, ("1 " + s + " 1")[2:2+len(s)], want, place, e)
		}
		if t.Failed() {
			t.Fatalf("P10.5: round %d", round)
		}
	}
}

// TestAtATime: from several goroutines at a time the calls answer what they answer alone.
func TestAtATime(t *testing.T) {
	var group sync.WaitGroup
	a := numbered(2, 3, 4)
	text, flat := wantedText(a), wantedFlat(a)
	for range 8 {
		group.Go(func() {
			for range 50 {
				checkText(t, a, text, api.OK)
				checkFlat(t, a, flat, api.OK)
				checkRead(t, flat, a, 0, api.OK)
				checkRead(t, flat+"x", api.Array{}, len(flat), api.ErrText)
			}
		})
	}
	group.Wait()
}
