package prim

import (
	"slices"

	"abacus/api"
)

// nest is an array as a tree: of rank 0 an atom, else its items.
type nest struct {
	atom  int64
	items []nest
}

// nested takes as many atoms as the tree of that shape has off the beginning.
func nested(s []int, atoms *[]int64) nest {
	if len(s) == 0 {
		n := nest{atom: (*atoms)[0]}
		*atoms = (*atoms)[1:]
		return n
	}
	var n nest
	for range s[0] {
		n.items = append(n.items, nested(s[1:], atoms))
	}
	return n
}

// flat tells a tree's atoms; how deep they lie is told, since a tree without items does not show it.
func flat(n nest, rank int) []int64 {
	if rank == 0 {
		return []int64{n.atom}
	}
	var out []int64
	for _, item := range n.items {
		out = append(out, flat(item, rank-1)...)
	}
	return out
}

// side is an array on the way down its frame to its cells.
type side struct {
	tree        nest
	frame, cell []int
}

func sideOf(a api.Array, rank int) side {
	atoms := slices.Clone(a.Atoms)
	ahead := max(0, len(a.Shape)-rank)
	return side{nested(a.Shape, &atoms), slices.Clone(a.Shape[:ahead]), slices.Clone(a.Shape[ahead:])}
}

func (s side) down(i int) side { return side{s.tree.items[i], s.frame[1:], s.cell} }

func (s side) here() api.Array { return array(s.cell, flat(s.tree, len(s.cell))...) }

// pairs goes down both frames at a time, and down the longer one alone where the other has ended.
func pairs(x, y side) [][2]api.Array {
	var out [][2]api.Array
	switch {
	case len(x.frame) > 0 && len(y.frame) > 0:
		for i := range x.frame[0] {
			out = append(out, pairs(x.down(i), y.down(i))...)
		}
	case len(x.frame) > 0:
		for i := range x.frame[0] {
			out = append(out, pairs(x.down(i), y)...)
		}
	case len(y.frame) > 0:
		for i := range y.frame[0] {
			out = append(out, pairs(x, y.down(i))...)
		}
	default:
		out = [][2]api.Array{{x.here(), y.here()}}
	}
	return out
}

func begins(a, b []int) bool { return len(a) <= len(b) && slices.Equal(a, b[:len(a)]) }

func refused(e api.Errno) (api.Array, api.Errno) { return api.Array{}, e }

// mayBe tells whether there is an array of these lengths, none of which is below 0.
func mayBe(s []int) bool {
	product := 1
	for _, length := range s {
		product *= max(1, length)
		if product > 4096 {
			return false
		}
	}
	return len(s) <= 8
}

// common is the shape that has room for both.
func common(a, b []int) []int {
	rank := max(len(a), len(b))
	a, b = slices.Concat(times(rank-len(a), 1), a), slices.Concat(times(rank-len(b), 1), b)
	for i := range a {
		a[i] = max(a[i], b[i])
	}
	return a
}

// lay puts a part's atoms into the beginning of each axis of a place of that shape.
func lay(into []int64, s []int, part api.Array) {
	lengthsOf := slices.Concat(times(len(s)-len(part.Shape), 1), part.Shape)
	at := make([]int, len(s))
	for _, n := range part.Atoms {
		place := 0
		for i, index := range at {
			place = place*s[i] + index
		}
		into[place] = n
		for i := len(at) - 1; i >= 0; i-- {
			if at[i]++; at[i] < lengthsOf[i] {
				break
			}
			at[i] = 0
		}
	}
}

// lifted is what lifting says of a verb's work, done to the cells of two arrays.
func lifted(x, y side, do func(x, y api.Array) (api.Array, api.Errno)) (api.Array, api.Errno) {
	frame := x.frame
	switch {
	case begins(x.frame, y.frame):
		frame = y.frame
	case !begins(y.frame, x.frame):
		return refused(api.ErrLength)
	}
	if slices.Contains(frame, 0) {
		tried, e := do(zeros(x.cell...), zeros(y.cell...))
		if e != api.OK {
			return array(frame), api.OK
		}
		if s := slices.Concat(frame, tried.Shape); mayBe(s) {
			return array(s), api.OK
		}
		return refused(api.ErrSize)
	}
	var parts []api.Array
	var room []int
	for _, p := range pairs(x, y) {
		a, e := do(p[0], p[1])
		if e != api.OK {
			return refused(e)
		}
		if len(parts) == 0 {
			room = a.Shape
		}
		parts, room = append(parts, a), common(room, a.Shape)
		if !mayBe(slices.Concat(frame, room)) {
			return refused(api.ErrSize)
		}
	}
	out := zeros(slices.Concat(frame, room)...)
	for i, part := range parts {
		lay(out.Atoms[i*sizeOf(room):], room, part)
	}
	return out, api.OK
}

// wantedMonad is what the catalogue says of an array that may be.
func wantedMonad(op int, y api.Array) (api.Array, api.Errno) {
	ranks, work := ranksAndWork(catalogue()[op-1].monad)
	if ranks == nil {
		return refused(api.ErrValence)
	}
	cells := sideOf(y, ranks[0])
	return lifted(cells, cells, func(_, y api.Array) (api.Array, api.Errno) { return work.monad(op, y) })
}

// wantedDyad is what the catalogue says of two arrays that may be.
func wantedDyad(op int, x, y api.Array) (api.Array, api.Errno) {
	ranks, work := ranksAndWork(catalogue()[op-1].dyad)
	if ranks == nil {
		return refused(api.ErrValence)
	}
	return lifted(sideOf(x, ranks[0]), sideOf(y, ranks[1]), func(x, y api.Array) (api.Array, api.Errno) { return work.dyad(op, x, y) })
}

// dice are numbers that look thrown, the same ones each time.
type dice uint64

func (d *dice) throw(n int) int {
	*d = *d*6364136223846793005 + 1442695040888963407
	return int(uint64(*d) >> 33 % uint64(n))
}

// shape throws a shape of at most so many lengths with few places.
func (d *dice) shape(rank int) []int {
	s := make([]int, d.throw(rank+1))
	for i := range s {
		s[i] = d.throw(4)
		if d.throw(3) > 0 && len(s) > 3 {
			s[i] = 1
		}
	}
	return s
}

// fewNumbers are numbers out of which arrays are thrown: small ones, that most rows take, and the farthest ones.
func fewNumbers() [][]int64 {
	return [][]int64{{0}, {1}, {0, 1}, {1, 2}, {0, -1, 1}, {api.Min, 0, api.Max, -1, 1}, {5, 1, 3, 2, 4, 10}, {2, 0, 3, 1, 1, 2}, {2, -2, 1, 3}, {-7, 7, 3, -3, 60, -60}, {1000, 2000, 3000, 0}, {4096, 1, 64, 65}}
}

// array throws the atoms of an array of that shape.
func (d *dice) array(s []int) api.Array {
	out, numbers := zeros(s...), fewNumbers()[d.throw(len(fewNumbers()))]
	for i := range out.Atoms {
		out.Atoms[i] = numbers[d.throw(len(numbers))]
	}
	return out
}

// longer throws a shape of which s is the beginning, or one of which it is not.
func (d *dice) longer(s []int, rank int) []int {
	if d.throw(6) == 0 {
		return d.shape(rank)
	}
	return slices.Concat(s, d.shape(min(3, 8-len(s))))
}
