package fault

import (
	"errors"
	"slices"
	"sync"
	"testing"

	"abacus/api"
)

// TestAlone: each call's error is itself, and can be held against all others, those of one text too.
func TestAlone(t *testing.T) {
	lists := In(listed{"listed"}, "a")
	var all []error
	for range 50 {
		all = append(all, New(14, 3), New(14, 4), In(api.ErrSize, "a"), In(api.ErrSize, ""), In(firstOf(all), "a"), In(lists, "a"), In(listed{"listed"}, "a"))
	}
	seen := map[error]int{}
	for i, a := range all {
		for j, b := range all {
			if (a == b) != (i == j) {
				t.Fatalf("P11.7: %d and %d (%v, %v): == is %v", i, j, a, b, a == b)
			}
		}
		seen[a]++
	}
	if len(seen) != len(all) {
		t.Errorf("P11.7: %d errors, %d keys", len(all), len(seen))
	}
}

// firstOf is the first one of a list, or a new one.
func firstOf(all []error) error {
	if len(all) == 0 {
		return New(14, 3)
	}
	return all[0]
}

// TestAsBefore: what was asked and wrapped in between changes no answer, and no error that was handed in.
func TestAsBefore(t *testing.T) {
	all := chains(3)
	for range 2 {
		for _, w := range all {
			In(In(w.err, "later"), "still later")
			Trail(In(w.err, "later"))
			check(t, w)
		}
	}
	inner := New(14, 3)
	w := &wrapper{"wrapper", inner}
	l := listed{"listed", "more"}
	for _, err := range []error{w, l} {
		outer := In(err, "a")
		Code(outer)
		Place(outer)
		Trail(outer)
		_ = outer.Error()
	}
	if *w != (wrapper{"wrapper", inner}) || !slices.Equal(l, listed{"listed", "more"}) || errors.Unwrap(inner) != error(api.ErrOver) {
		t.Errorf("P11.7: changed: %v, %v, %v", *w, l, inner)
	}
}

// TestTrailMemory: each trail is memory of its own, spare room too.
func TestTrailMemory(t *testing.T) {
	for depth := range 20 {
		err, names := New(14, 3), []string(nil)
		for i := range depth {
			names = append(names, string(rune('a'+i)))
			err = In(err, names[i])
		}
		first, second := Trail(err), Trail(err)
		for i := range first[:cap(first)] {
			first[:cap(first)][i] = "spoiled"
		}
		_ = append(first, "more")
		if !slices.Equal(second, names) || !slices.Equal(Trail(err), names) || slices.Contains(second[:cap(second)], "spoiled") {
			t.Errorf("P11.6, P0.3: %q, %q, not %q", second, Trail(err), names)
		}
		if got := Trail(In(err, "z")); !slices.Equal(got, append(names, "z")) {
			t.Errorf("P11.6, P0.3: %q behind %q", got, names)
		}
	}
}

// TestAtATime: one error, asked by many at a time.
func TestAtATime(t *testing.T) {
	all := chains(2)
	var group sync.WaitGroup
	for range 8 {
		group.Go(func() {
			for _, w := range all {
				check(t, w)
			}
		})
	}
	group.Wait()
}
