package arr

import (
	"slices"
	"testing"

	"abacus/api"
)

// before tells whether a is before b, by the words of P3.5 one behind the other.
func before(a, b api.Array) bool {
	if len(a.Shape) != len(b.Shape) {
		return len(a.Shape) < len(b.Shape)
	}
	for axis := range a.Shape {
		if a.Shape[axis] != b.Shape[axis] {
			return a.Shape[axis] < b.Shape[axis]
		}
	}
	for i := range min(len(a.Atoms), len(b.Atoms)) {
		if a.Atoms[i] != b.Atoms[i] {
			return a.Atoms[i] < b.Atoms[i]
		}
	}
	return len(a.Atoms) < len(b.Atoms)
}

func wantedOrder(a, b api.Array) int {
	switch {
	case before(a, b):
		return -1
	case before(b, a):
		return 1
	}
	return 0
}

// checkOrder holds Compare against the wanted order, both ways round, and Same against whether it is 0.
func checkOrder(t *testing.T, a, b api.Array, want int) {
	t.Helper()
	if got := Compare(a, b); got != want {
		t.Errorf("P3.5: Compare(%v, %v): %d; want %d", brief(a), brief(b), got, want)
	}
	if got := Compare(b, a); got != -want {
		t.Errorf("P3.5: Compare(%v, %v): %d; want %d", brief(b), brief(a), got, -want)
	}
	if got := Same(a, b); got != (want == 0) {
		t.Errorf("P3.3: Same(%v, %v): %v", brief(a), brief(b), got)
	}
	if got := Same(b, a); got != (want == 0) {
		t.Errorf("P3.3: Same(%v, %v): %v", brief(b), brief(a), got)
	}
}

// allLists are the lists of up to most of these numbers.
func allLists[N int | int64](most int, numbers ...N) [][]N {
	out := [][]N{nil}
	for from := 0; len(out[from]) < most; from++ {
		for _, n := range numbers {
			out = append(out, append(slices.Clone(out[from]), n))
		}
	}
	return out
}

// smallArrays are all arrays of few small lengths and few small atoms; most of them may not be.
func smallArrays() []api.Array {
	var out []api.Array
	for _, s := range allLists(2, -1, 0, 1, 2) {
		for _, atoms := range allLists[int64](3, -1, 0, 1) {
			out = append(out, array(s, atoms...))
		}
	}
	return out
}

// oddArrays are arrays of all the shapes of these tests, and some that differ in one number alone.
func oddArrays() []api.Array {
	out := []api.Array{
		{}, array(nil, 0), array(nil, api.Min), array(nil, api.Max), array(nil, -1), array(nil, 1), array(nil, 1, 2),
		array(lengths(1), api.Min), array(lengths(1), api.Max), array(lengths(2), api.Max, api.Min), array(lengths(2), api.Min, api.Max),
		array(lengths(least), 1), array(lengths(most), 1), array(lengths(least, most)), array(lengths(most, least)),
		array(lengths(1, 1), 0), array(lengths(2), 0, 0), array(times(9, 1)), array(times(9, 1), 5), array(times(100, 0)), array(times(101, 0)),
	}
	for _, c := range goodShapes() {
		out = append(out, array(c.s, numbered(c.size)...))
		if c.size > 0 {
			first, last := numbered(c.size), numbered(c.size)
			first[0]++
			last[c.size-1]--
			out = append(out, array(c.s, first...), array(c.s, last...))
		}
	}
	for _, c := range wrongShapes() {
		out = append(out, array(c.s, numbered(6)...))
	}
	for _, n := range []int{4095, 4097, 5000} {
		out = append(out, array(lengths(4096), numbered(n)...))
	}
	return out
}

func TestSameExample(t *testing.T) {
	checkOrder(t, array(nil, 5), array(lengths(1), 5), -1)
	if Same(array(nil, 5), array(lengths(1), 5)) {
		t.Error("P3.3: a scalar and a list of it are the same")
	}
}

func TestSame(t *testing.T) {
	table := array(lengths(2, 3), 1, 2, 3, 4, 5, 6)
	if !Same(table, array(lengths(2, 3), 1, 2, 3, 4, 5, 6)) || !Same(table, table) {
		t.Error("P3.3: two alike are not the same")
	}
	for i := range table.Atoms {
		other := array(table.Shape, table.Atoms...)
		other.Atoms = slices.Clone(other.Atoms)
		other.Atoms[i] = -9
		if Same(table, other) || Same(other, table) {
			t.Errorf("P3.3: the same, though atom %d is another", i)
		}
	}
	for _, s := range [][]int{{3, 2}, {6}, {6, 1}, {1, 2, 3}, {2, 3, 1}, {2}, {2, 4}, nil} {
		if Same(table, array(s, table.Atoms...)) || Same(array(s, table.Atoms...), table) {
			t.Errorf("P3.3: the same, though the shape is %v", s)
		}
	}
	if Same(array(lengths(0, 3)), array(lengths(0, 4))) || Same(array(lengths(0)), array(lengths(0, 0))) {
		t.Error("P3.3: the same, though the shapes of none differ")
	}
}

// TestSameWrong: arrays that may not be are held against one another, too.
func TestSameWrong(t *testing.T) {
	for _, c := range wrongArrays() {
		twin := array(slices.Clone(c.a.Shape), slices.Clone(c.a.Atoms)...)
		checkOrder(t, c.a, twin, 0)
		checkOrder(t, c.a, array(c.a.Shape, append(slices.Clone(c.a.Atoms), api.Min)...), -1)
		checkOrder(t, c.a, array(append(slices.Clone(c.a.Shape), -1), c.a.Atoms...), -1)
	}
}

// TestNilIsEmpty: a nil list is the same as an empty one.
func TestNilIsEmpty(t *testing.T) {
	checkOrder(t, api.Array{}, api.Array{Shape: lengths(), Atoms: []int64{}}, 0)
	checkOrder(t, api.Array{Shape: lengths(0)}, api.Array{Shape: lengths(0), Atoms: []int64{}}, 0)
	checkOrder(t, api.Array{Atoms: []int64{5}}, api.Array{Shape: lengths(), Atoms: []int64{5}}, 0)
}

func TestCompareExamples(t *testing.T) {
	checkOrder(t, array(nil, 9), array(lengths(1), 1), -1)
	checkOrder(t, array(lengths(2), 1, 5), array(lengths(2), 2, 0), -1)
	checkOrder(t, array(lengths(2), 9, 9), array(lengths(3), 0, 0, 0), -1)
}

// TestCompareRow: each one is before all that stand behind it.
func TestCompareRow(t *testing.T) {
	row := []api.Array{
		{}, array(nil, api.Min), array(nil, -1), array(nil, 0), array(nil, 0, api.Min), array(nil, 0, 0), array(nil, 1), array(nil, api.Max),
		array(lengths(least)), array(lengths(-1), api.Max), array(lengths(0)), array(lengths(0), api.Min), array(lengths(1), 1), array(lengths(2), 1, 5), array(lengths(2), 2), array(lengths(2), 2, 0), array(lengths(2), 2, 0, 0), array(lengths(3), 0, 0, 0), array(lengths(most)),
		array(lengths(least, most)), array(lengths(0, 9)), array(lengths(1, 1), 7), array(lengths(1, 2), 0, 0), array(lengths(2, 1), -1, -1),
		array(times(9, 0)), array(times(9, 1), 5), array(times(100, -1)),
	}
	for i, a := range row {
		checkOrder(t, a, a, 0)
		for _, b := range row[i+1:] {
			checkOrder(t, a, b, -1)
		}
	}
}

// TestCompare: all pairs of all of them, against the words of P3.5.
func TestCompare(t *testing.T) {
	for _, all := range [][]api.Array{smallArrays(), oddArrays()} {
		for i, a := range all {
			for _, b := range all[i:] {
				checkOrder(t, a, b, wantedOrder(a, b))
			}
		}
	}
}

// TestOrder: of three of which the first is not behind the second and that one not behind the third, the first is not behind the third; and 0 is just where Same.
func TestOrder(t *testing.T) {
	all := oddArrays()
	for _, s := range allLists(1, -1, 0, 1, 2) {
		for _, atoms := range allLists[int64](2, -1, 0) {
			all = append(all, array(s, atoms...))
		}
	}
	for _, a := range all {
		for _, b := range all {
			order := Compare(a, b)
			if order != -Compare(b, a) || (order == 0) != Same(a, b) || order < -1 || order > 1 {
				t.Fatalf("P3.5: %v and %v: %d, %d the other way round, Same %v", brief(a), brief(b), order, Compare(b, a), Same(a, b))
			}
			if order > 0 {
				continue
			}
			for _, c := range all {
				if Compare(b, c) <= 0 && Compare(a, c) > 0 {
					t.Fatalf("P3.5: no order: %v, %v, %v", brief(a), brief(b), brief(c))
				}
			}
		}
	}
}

// TestSorted: sorted by Compare, each one of very many is not behind any that comes later.
func TestSorted(t *testing.T) {
	all := append(smallArrays(), oddArrays()...)
	slices.SortFunc(all, Compare)
	for i, a := range all {
		for _, b := range all[i:] {
			if Compare(a, b) > 0 || Compare(b, a) < 0 {
				t.Fatalf("P3.5: sorted, and yet %v is behind %v", brief(a), brief(b))
			}
		}
	}
}
