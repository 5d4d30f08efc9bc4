package shape

import (
	"iter"
	"slices"
	"sync"
	"testing"

	"abacus/api"
)

// checkAll goes over all that there is and holds it against the indices counted.
func checkAll(t *testing.T, s []int, seq iter.Seq2[int, []int]) {
	t.Helper()
	var want [][]int
	if exactMay(s) == api.OK {
		want = counted(s)
	}
	next := 0
	for place, at := range seq {
		if next >= len(want) {
			t.Fatalf("P2.8: All(%v) has more than %d places: %d with %v", s, len(want), place, at)
		}
		if place != next || !slices.Equal(at, want[next]) {
			t.Fatalf("P2.8: All(%v): %d with %v; want %d with %v", s, place, at, next, want[next])
		}
		next++
	}
	if next != len(want) {
		t.Errorf("P2.8: All(%v): %d places; want %d", s, next, len(want))
	}
}

func TestAllExample(t *testing.T) {
	var places []int
	var ats [][]int
	for place, at := range All(list(1, 2)) {
		places, ats = append(places, place), append(ats, at)
	}
	if !slices.Equal(places, list(0, 1)) || len(ats) != 2 || !slices.Equal(ats[0], list(0, 0)) || !slices.Equal(ats[1], list(0, 1)) {
		t.Errorf("P2.8: All(1 2): %v with %v", places, ats)
	}
}

// TestAll: each one twice; of those that may not be, nothing.
func TestAll(t *testing.T) {
	for _, s := range shapes() {
		seq := All(s)
		if seq == nil {
			t.Fatalf("P2.8: All(%v) is nil", s)
		}
		checkAll(t, s, seq)
		checkAll(t, s, seq)
	}
}

func TestAllLeftEarly(t *testing.T) {
	s := list(2, 3, 2)
	seq := All(s)
	for stop := range 12 {
		seen := 0
		for place := range seq {
			seen++
			if place == stop {
				break
			}
		}
		if seen != stop+1 {
			t.Errorf("P2.8: left at place %d: %d were told", stop, seen)
		}
		checkAll(t, s, seq)
	}
	// What a range leaves unsaid: behind a false nothing more is told.
	told := 0
	seq(func(int, []int) bool { told++; return false })
	if told != 1 {
		t.Errorf("P2.8: told %d times, left at the first", told)
	}
}

func TestAllWithinItself(t *testing.T) {
	s := list(2, 3)
	want := counted(s)
	seq := All(s)
	pairs := 0
	for a, atA := range seq {
		for b, atB := range seq {
			if a != pairs/6 || b != pairs%6 || !slices.Equal(atA, want[a]) || !slices.Equal(atB, want[b]) {
				t.Errorf("P2.8: pair %d: %d with %v, %d with %v", pairs, a, atA, b, atB)
			}
			pairs++
		}
	}
	if pairs != 36 {
		t.Errorf("P2.8: %d pairs; want 36", pairs)
	}
}

// TestAllOfThen: what the list holds behind the call bears on nothing, be it ahead of going over it or on the way.
func TestAllOfThen(t *testing.T) {
	for _, c := range []struct{ then, now []int }{
		{list(2, 2), list(9, 9)}, {list(2, 2), list(-1, 0)}, {list(-1, 2), list(2, 2)}, {list(0, 3), list(3, 3)}, {list(64, 65), list(1, 1)}, {times(9, 1), times(9, 2)},
	} {
		s := slices.Clone(c.then)
		seq := All(s)
		copy(s, c.now)
		checkAll(t, c.then, seq)
		copy(s, c.then)
		checkAll(t, c.then, seq)
	}
	s := list(2, 3)
	want := counted(s)
	for place, at := range All(s) {
		s[0], s[1] = 7, 7
		if place >= len(want) || !slices.Equal(at, want[place]) {
			t.Fatalf("P2.8: %d with %v, the shape changed on the way", place, at)
		}
	}
}

// TestAllOwnIndices: whoever writes into the indices, or appends to them, changes no others and not what comes next.
func TestAllOwnIndices(t *testing.T) {
	s := list(2, 3, 2)
	seq := All(s)
	want := counted(s)
	var kept [][]int
	for place, at := range seq {
		if !slices.Equal(at, want[place]) {
			t.Fatalf("P2.8: place %d has %v; want %v", place, at, want[place])
		}
		spoil(at, 1000*place)
		kept = append(kept, at)
	}
	for place, at := range kept {
		if !spoiled(at, 1000*place) {
			t.Errorf("P2.9: what was written into place %d's indices is gone: %v", place, at)
		}
	}
	checkAll(t, s, seq)
}

// TestAllAtATime: gone over by several at a time.
func TestAllAtATime(t *testing.T) {
	s := list(4, 3, 5)
	want := counted(s)
	seq := All(s)
	wrong := make([]int, 8)
	var all sync.WaitGroup
	for w := range wrong {
		all.Go(func() {
			for place, at := range seq {
				if !slices.Equal(at, want[place]) {
					wrong[w]++
				}
				spoil(at, w)
			}
		})
	}
	all.Wait()
	if !slices.Equal(wrong, make([]int, 8)) {
		t.Errorf("P2.8: wrong indices, gone over by several at a time: %v", wrong)
	}
}
