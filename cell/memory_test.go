package cell

import (
	"fmt"
	"slices"
	"sync"
	"testing"

	"abacus/api"
)

// spare is what stands in the spare room of the lists handed in.
const spare = 987654321

// roomyList is a list of the same numbers with spare room behind it.
func roomyList[N int | int64](list []N) []N {
	room := append(slices.Clone(list), spare, spare, spare)
	return room[:len(list)]
}

func roomy(a api.Array) api.Array { return array(roomyList(a.Shape), roomyList(a.Atoms)...) }

// asMade tells whether a roomy list is as it was made.
func asMade[N int | int64](list, was []N) bool {
	return slices.Equal(list, was) && slices.Equal(list[:len(list)+3][len(list):], []N{spare, spare, spare})
}

func untouched(a, was api.Array) bool {
	return asMade(a.Shape, was.Shape) && asMade(a.Atoms, was.Atoms)
}

// answer is all lists of what a call told, and the rest of it.
type answer struct {
	ints   [][]int
	atoms  [][]int64
	arrays [][]api.Array
	pieces [][]api.Piece
	other  any
}

func (a *answer) take(arrays ...api.Array) {
	for _, b := range arrays {
		a.ints = append(a.ints, b.Shape)
		a.atoms = append(a.atoms, b.Atoms)
	}
}

func (a *answer) takeCells(cells []api.Array) {
	a.take(cells...)
	a.arrays = append(a.arrays, cells)
}

// fill writes one thing all over a list, its spare room too.
func fill[E any](list []E, with E) {
	for i := range list[:cap(list)] {
		list[:cap(list)][i] = with
	}
}

// spoil writes into each list, spare room too, a number by which it is known.
func (a answer) spoil(from int) {
	for i, l := range a.ints {
		fill(l, from+i)
	}
	for i, l := range a.atoms {
		fill(l, int64(from+i))
	}
	for i, l := range a.arrays {
		fill(l, api.Array{Atoms: []int64{int64(from + i)}})
	}
	for i, l := range a.pieces {
		fill(l, api.Piece{From: from + i})
	}
}

func filled[E any](list []E, is func(E) bool) bool {
	return !slices.ContainsFunc(list[:cap(list)], func(e E) bool { return !is(e) })
}

func (a answer) spoiled(from int) bool {
	for i, l := range a.ints {
		if !filled(l, func(n int) bool { return n == from+i }) {
			return false
		}
	}
	for i, l := range a.atoms {
		if !filled(l, func(n int64) bool { return n == int64(from+i) }) {
			return false
		}
	}
	for i, l := range a.arrays {
		if !filled(l, func(b api.Array) bool { return len(b.Atoms) == 1 && b.Atoms[0] == int64(from+i) }) {
			return false
		}
	}
	for i, l := range a.pieces {
		if !filled(l, func(p api.Piece) bool { return p.From == from+i }) {
			return false
		}
	}
	return true
}

// text is all of an answer as text; nil and empty lists look alike there.
func (a answer) text() string {
	return fmt.Sprint(a.ints, a.atoms, a.arrays, a.pieces, a.other)
}

// called is a call by its name.
type called struct {
	name string
	do   func(x, y api.Array) answer
}

func ofOne(c api.Cells, e api.Errno) answer {
	out := answer{other: e}
	out.ints = append(out.ints, c.Frame)
	out.takeCells(c.Cells)
	out.take(c.Like)
	return out
}

func ofTwo(p api.Pairs, e api.Errno) answer {
	out := answer{other: e}
	out.ints = append(out.ints, p.Frame)
	out.takeCells(p.Left)
	out.takeCells(p.Right)
	out.take(p.LikeLeft, p.LikeRight)
	return out
}

func ofArray(a api.Array, e api.Errno) answer {
	out := answer{other: e}
	out.take(a)
	return out
}

func ofPieces(pieces []api.Piece, like api.Array, e api.Errno) answer {
	out := answer{other: e, pieces: [][]api.Piece{pieces}}
	out.take(like)
	return out
}

// byJoiner gives both arrays to a joiner and asks it twice.
func byJoiner(frame []int, x, y api.Array) answer {
	j, e := Begin(frame)
	if e != api.OK {
		return answer{other: e}
	}
	told := []api.Errno{j.Add(x), j.Add(y), j.Add(x)}
	a, e := j.Done()
	again, eAgain := j.Done()
	out := answer{other: fmt.Sprint(told, e, eAgain)}
	out.take(a, again)
	return out
}

func calls() []called {
	return []called{
		{"One by 0", func(x, y api.Array) answer { return ofOne(One(x, 0)) }},
		{"One by 1", func(x, y api.Array) answer { return ofOne(One(x, 1)) }},
		{"One by -1", func(x, y api.Array) answer { return ofOne(One(x, -1)) }},
		{"One by Inf", func(x, y api.Array) answer { return ofOne(One(x, api.Inf)) }},
		{"Two by 0 0", func(x, y api.Array) answer { return ofTwo(Two(x, y, 0, 0)) }},
		{"Two by 1 -1", func(x, y api.Array) answer { return ofTwo(Two(x, y, 1, -1)) }},
		{"Two by Inf Inf", func(x, y api.Array) answer { return ofTwo(Two(x, y, api.Inf, api.Inf)) }},
		{"Two of one by 0 1", func(x, y api.Array) answer { return ofTwo(Two(x, x, 0, 1)) }},
		{"Part 0 1", func(x, y api.Array) answer { return ofArray(Part(x, 0, 1)) }},
		{"Part 1 1", func(x, y api.Array) answer { return ofArray(Part(x, 1, 1)) }},
		{"Part 0 0", func(x, y api.Array) answer { return ofArray(Part(x, 0, 0)) }},
		{"Pieces of 2", func(x, y api.Array) answer { return ofPieces(Pieces(x, 2)) }},
		{"Pieces of -2", func(x, y api.Array) answer { return ofPieces(Pieces(x, -2)) }},
		{"Pieces of 7", func(x, y api.Array) answer { return ofPieces(Pieces(x, 7)) }},
		{"a joiner of 2", func(x, y api.Array) answer { return byJoiner(lengths(2), x, y) }},
		{"a joiner of the shape", func(x, y api.Array) answer { return byJoiner(x.Shape, y, x) }},
		{"Join under 2", func(x, y api.Array) answer { return ofArray(Join(lengths(2), x, y)) }},
		{"Join of one twice", func(x, y api.Array) answer { return ofArray(Join(lengths(2), x, x)) }},
		{"Join of one", func(x, y api.Array) answer { return ofArray(Join(nil, x)) }},
		{"Join under the shape", func(x, y api.Array) answer { return ofArray(Join(x.Shape, y)) }},
		{"Empty told", func(x, y api.Array) answer { return ofArray(Empty(x.Shape, y, true)) }},
		{"Empty not told", func(x, y api.Array) answer { return ofArray(Empty(x.Shape, y, false)) }},
		{"Empty alone", func(x, y api.Array) answer { return ofArray(Empty(lengths(0), x, true)) }},
	}
}

// someArrays are arrays that may be and some that may not.
func someArrays() []api.Array {
	var out []api.Array
	for _, s := range goodShapes() {
		if sizeOf(s) < 300 {
			out = append(out, numbered(s...))
		}
	}
	return append(out, api.Array{}, array(lengths(2), 1), array(lengths(-1), 1), array(times(9, 1), 1), array(lengths(3, 1), 1, 2, 3, 4))
}

// fewArrays stand beside the others.
func fewArrays() []api.Array {
	return arrays(api.Array{}, scalar(5), list(1, 2), list(), table(), array(lengths(0, 3)), array(lengths(-1), 1), numbered(2, 3, 4))
}

// TestMemory: arrays handed in are as they were, spare room too; no list that is answered shares anything with them, with another list of the answer, or with what the same call answers again.
func TestMemory(t *testing.T) {
	for _, wasX := range someArrays() {
		for _, wasY := range fewArrays() {
			for _, c := range calls() {
				x, y := roomy(wasX), roomy(wasY)
				first, second := c.do(x, y), c.do(x, y)
				if !untouched(x, wasX) || !untouched(y, wasY) {
					t.Fatalf("P4.10: %s of %s and %s changes them", c.name, brief(wasX), brief(wasY))
				}
				first.spoil(100000)
				second.spoil(200000)
				if !untouched(x, wasX) || !untouched(y, wasY) {
					t.Fatalf("P4.10: %s of %s and %s answers memory of theirs", c.name, brief(wasX), brief(wasY))
				}
				if !first.spoiled(100000) || !second.spoiled(200000) {
					t.Fatalf("P4.10: %s of %s and %s: two lists that are answered share memory", c.name, brief(wasX), brief(wasY))
				}
			}
		}
	}
}

// TestJoinKeepsTheList: the list of arrays that is spread over Join is as it was, spare room too.
func TestJoinKeepsTheList(t *testing.T) {
	mark := list(spare)
	cells := append(make([]api.Array, 0, 6), scalar(1), list(3, 4), mark, mark)[:2]
	for _, frame := range [][]int{lengths(2), lengths(1), lengths(3), lengths(0), lengths(-1), nil} {
		a, e := Join(frame, cells...)
		ofArray(a, e).spoil(100000)
		if !alikeCells(cells[:4], arrays(scalar(1), list(3, 4), mark, mark)) {
			t.Fatalf("P4.10: Join under %v changes the list of its arrays: %s", frame, briefCells(cells[:4]))
		}
	}
}

// TestSharedArguments: both arrays and the frame lie in one memory.
func TestSharedArguments(t *testing.T) {
	lengthsAll, atomsAll := lengths(2, 1, 2, 2), numbered(9).Atoms
	wasLengths, wasAtoms := slices.Clone(lengthsAll), slices.Clone(atomsAll)
	for rank := range len(lengthsAll) + 1 {
		for n := range len(atomsAll) + 1 {
			for _, c := range calls() {
				c.do(array(lengthsAll[:rank], atomsAll[:n]...), array(lengthsAll[1:], atomsAll[n:]...)).spoil(100000)
				if !slices.Equal(lengthsAll, wasLengths) || !slices.Equal(atomsAll, wasAtoms) {
					t.Fatalf("P4.10: %s of %v and %d atoms: the memory became %v and %v", c.name, wasLengths[:rank], n, lengthsAll, atomsAll)
				}
			}
		}
	}
}

// TestNotKept: what a call answered stays as it was when what was handed in is changed behind it.
func TestNotKept(t *testing.T) {
	for _, was := range someArrays() {
		for _, c := range calls() {
			x, y := roomy(was), roomy(was)
			out := c.do(x, y)
			want := out.text()
			ofArray(x, api.OK).spoil(-50)
			ofArray(y, api.OK).spoil(-60)
			if got := out.text(); got != want {
				t.Errorf("P4.10: %s answered %.200s, and %.200s when its arguments were changed", c.name, want, got)
			}
		}
	}
}

// TestJoinerKeepsCopies: a frame and arrays that are changed behind the call, and an answer that is written into, bear on no later answer.
func TestJoinerKeepsCopies(t *testing.T) {
	frame := roomyList(lengths(2, 2))
	j := begin(t, frame...)
	fill(frame, 7)
	given := arrays(scalar(1), list(3, 4), table(), list())
	for i, a := range given {
		handed := roomy(a)
		checkAdd(t, j, handed, api.OK)
		ofArray(handed, api.OK).spoil(50 + i)
	}
	want := joined(lengths(2, 2), given)
	for round := range 3 {
		a, e := j.Done()
		checkArray(t, fmt.Sprint("P4.10: a joiner asked for the time ", round), a, e, want, api.OK)
		ofArray(a, e).spoil(100 * round)
	}
	handed := roomy(table())
	checkAdd(t, j, handed, api.ErrFull)
	ofArray(handed, api.OK).spoil(9)
	checkDone(t, j, want, api.OK)
}

// TestFrameNotKept: a frame that is handed to Begin itself may be written into ahead of the first array.
func TestFrameNotKept(t *testing.T) {
	frame := roomyList(lengths(3))
	j, _ := Begin(frame)
	fill(frame, 1)
	for n := range 3 {
		checkAdd(t, j, scalar(int64(n)), api.OK)
	}
	checkAdd(t, j, scalar(3), api.ErrFull)
	checkDone(t, j, list(0, 1, 2), api.OK)
}

// story is what a joiner is offered, and what it tells by and by.
type story struct {
	frame   []int
	offered []api.Array
	j       *Joiner
	told    []string
}

func stories() []*story {
	return []*story{
		{frame: lengths(2), offered: arrays(scalar(1), list(3, 4), scalar(5))},
		{frame: lengths(2), offered: arrays(table(), array(lengths(2), 1), list(7))},
		{frame: lengths(2, 2), offered: arrays(list(), scalar(9), zeros(4096), scalar(8), list(1, 2, 3))},
		{frame: nil, offered: arrays(numbered(2, 3, 4), scalar(1))},
		{frame: lengths(3), offered: arrays(scalar(1), list(2), table())},
	}
}

func (s *story) begin() { s.j, _ = Begin(s.frame) }

// step offers the next array, if there is one, and asks.
func (s *story) step(n int) {
	if n < len(s.offered) {
		s.told = append(s.told, fmt.Sprint(s.j.Add(s.offered[n])))
	}
	a, e := s.j.Done()
	s.told = append(s.told, brief(a)+fmt.Sprint(e))
	ofArray(a, e).spoil(n)
}

const steps = 6

// alone are the stories, each told from beginning to end.
func alone() []*story {
	all := stories()
	for _, s := range all {
		s.begin()
		for n := range steps {
			s.step(n)
		}
	}
	return all
}

// TestJoinersByTurns: joiners that are used by turns answer as if alone.
func TestJoinersByTurns(t *testing.T) {
	all := stories()
	for _, s := range all {
		s.begin()
	}
	for n := range steps {
		for _, s := range all {
			s.step(n)
		}
	}
	for i, s := range alone() {
		if !slices.Equal(all[i].told, s.told) {
			t.Errorf("P4.10: joiner %d by turns with others: %v; alone: %v", i, all[i].told, s.told)
		}
	}
}

// TestArgumentsAlone: spare room, nil instead of empty, what was asked before and what was done with an answer bear on nothing.
func TestArgumentsAlone(t *testing.T) {
	first := map[string]string{}
	for round := range 2 {
		for i, x := range someArrays() {
			for _, c := range calls() {
				key := fmt.Sprint(c.name, " ", i)
				forms := arrays(x, roomy(x), array(slices.Clip(slices.Clone(x.Shape)), slices.Clip(slices.Clone(x.Atoms))...), array(append(lengths(), x.Shape...), append([]int64{}, x.Atoms...)...))
				for _, form := range forms {
					out := c.do(form, list(1, 2))
					got := out.text()
					if want, ok := first[key]; ok && got != want {
						t.Fatalf("P4.10: %s of %s, round %d: %.200s; before: %.200s", c.name, brief(x), round, got, want)
					}
					first[key] = got
					out.spoil(-7)
				}
			}
		}
	}
}

// TestAtATime: from several goroutines at a time the calls answer what they answer alone.
func TestAtATime(t *testing.T) {
	x, y := table(), list(7, 8)
	var group sync.WaitGroup
	for _, c := range calls() {
		want := c.do(x, y).text()
		for range 4 {
			group.Go(func() {
				for range 20 {
					if got := c.do(x, y).text(); got != want {
						t.Errorf("P4.10: %s at a time with others: %s; alone: %s", c.name, got, want)
						return
					}
				}
			})
		}
	}
	group.Wait()
}
