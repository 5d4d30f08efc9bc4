package shape

import (
	"slices"
	"testing"
)

// spare is what stands in the spare room of the lists handed in.
const spare = 987654321

// roomy is a list with spare room behind it.
func roomy(s []int) []int {
	room := append(slices.Clone(s), spare, spare, spare)
	return room[:len(s)]
}

// untouched tells whether a roomy list is as it was made.
func untouched(s, was []int) bool {
	return slices.Equal(s, was) && slices.Equal(s[:len(s)+3][len(s):], list(spare, spare, spare))
}

// spoil writes into a list, spare room too, numbers by which it is known.
func spoil(s []int, from int) {
	for i := range s[:cap(s)] {
		s[:cap(s)][i] = from + i
	}
}

func spoiled(s []int, from int) bool {
	for i, n := range s[:cap(s)] {
		if n != from+i {
			return false
		}
	}
	return true
}

// called is a call by its name, with the lists that it answers.
type called struct {
	name string
	do   func(a, b []int) [][]int
}

func calls() []called {
	return []called{
		{"May", func(a, b []int) [][]int { May(a); return nil }},
		{"Size", func(a, b []int) [][]int { Size(a); return nil }},
		{"Place", func(a, b []int) [][]int { Place(a, b); return nil }},
		{"At", func(a, b []int) [][]int { at, _ := At(a, len(b)); return [][]int{at} }},
		{"At first", func(a, b []int) [][]int { at, _ := At(a, 0); return [][]int{at} }},
		{"Split none", func(a, b []int) [][]int { f, c := Split(a, 0); return [][]int{f, c} }},
		{"Split 1", func(a, b []int) [][]int { f, c := Split(a, 1); return [][]int{f, c} }},
		{"Split less 1", func(a, b []int) [][]int { f, c := Split(a, -1); return [][]int{f, c} }},
		{"Split all", func(a, b []int) [][]int { f, c := Split(a, 64); return [][]int{f, c} }},
		{"Agree", func(a, b []int) [][]int { s, _ := Agree(a, b); return [][]int{s} }},
		{"Agree alike", func(a, b []int) [][]int { s, _ := Agree(a, a); return [][]int{s} }},
		{"Cover one", func(a, b []int) [][]int { s, _ := Cover(a); return [][]int{s} }},
		{"Cover two", func(a, b []int) [][]int { s, _ := Cover(a, b); return [][]int{s} }},
		{"Cover three", func(a, b []int) [][]int { s, _ := Cover(a, a, b); return [][]int{s} }},
		{"All", func(a, b []int) [][]int {
			var ats [][]int
			for _, at := range All(a) {
				ats = append(ats, at)
			}
			return ats
		}},
	}
}

// TestMemory: lists handed in, one of them the other's beginning in the same memory too, are as they were; what is answered shares nothing with them, with one another and with what the same call answers again.
func TestMemory(t *testing.T) {
	for _, wasA := range shapes() {
		for _, wasB := range [][]int{nil, {0}, {1}, {2}, {0, 0}, {1, 2}, {2, 3}, {2, 3, 4}, {-1}} {
			for _, c := range calls() {
				a, b := roomy(wasA), roomy(wasB)
				first := c.do(a, b)
				second := c.do(a, b)
				lists := slices.Concat(first, second)
				for i, s := range lists {
					spoil(s, 100000*(i+1))
				}
				if !untouched(a, wasA) || !untouched(b, wasB) {
					t.Fatalf("P2.9: %s of %v and %v: they became %v and %v", c.name, wasA, wasB, a[:len(a)+3], b[:len(b)+3])
				}
				for i, s := range lists {
					if !spoiled(s, 100000*(i+1)) {
						t.Fatalf("P2.9: %s of %v and %v: two lists share memory", c.name, wasA, wasB)
					}
				}
			}
		}
	}
}

// TestSharedArguments: both arguments lie in one memory.
func TestSharedArguments(t *testing.T) {
	memory := list(2, 3, 4, 5, 6)
	was := slices.Clone(memory)
	for from := range memory {
		for to := from; to <= len(memory); to++ {
			for _, c := range calls() {
				for i, s := range c.do(memory[from:to], memory[:to]) {
					spoil(s, 100000*(i+1))
				}
				if !slices.Equal(memory, was) {
					t.Fatalf("P2.9: %s of %v and %v: the memory became %v", c.name, was[from:to], was[:to], memory)
				}
			}
		}
	}
}

// TestCoverList: the list of shapes that is spread over Cover's arguments stays as it was, spare room too.
func TestCoverList(t *testing.T) {
	one, two, three := list(3), list(2, 1), list(7)
	ss := [][]int{one, two, three}
	common, _ := Cover(ss[:2]...)
	spoil(common, 5)
	if &ss[0][0] != &one[0] || &ss[1][0] != &two[0] || &ss[2][0] != &three[0] {
		t.Error("P2.9: the list handed to Cover was changed")
	}
	if one[0] != 3 || two[0] != 2 || two[1] != 1 || three[0] != 7 {
		t.Error("P2.9: the shapes handed to Cover were changed")
	}
}

// TestNotKept: what a call answered stays as it was when what was handed in is changed behind it.
func TestNotKept(t *testing.T) {
	for _, c := range calls() {
		a, b := list(2, 3, 4), list(2, 3)
		answered := c.do(a, b)
		var want [][]int
		for _, s := range answered {
			want = append(want, slices.Clone(s))
		}
		spoil(a, -50)
		spoil(b, -50)
		for i := range answered {
			if !slices.Equal(answered[i], want[i]) {
				t.Errorf("P2.9: %s answered %v, and %v when its arguments were changed", c.name, want[i], answered[i])
			}
		}
	}
}
