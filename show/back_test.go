package show

import (
	"slices"
	"strings"
	"testing"

	"abacus/api"
)

// checkBack holds an array against what is read of its line.
func checkBack(t *testing.T, a api.Array) {
	t.Helper()
	s, e := Flat(a)
	if e != api.OK {
		t.Fatalf("P10.2: Flat(%s): %v", brief(a), e)
	}
	if got, place, e := Read(s); e != api.OK || place != 0 || !alike(got, a) {
		t.Errorf("P10.4: Read(Flat(%s)): %s, %d, %v; the line is %s", brief(a), brief(got), place, e, short(s))
	}
}

// checkForth holds a text against the line of what is read of it, if it is one at all, and tells that.
func checkForth(t *testing.T, s string) bool {
	t.Helper()
	a, _, e := Read(s)
	if e != api.OK {
		return false
	}
	if got, e := Flat(a); e != api.OK || got != s {
		t.Errorf("P10.4: Flat(Read(%s)): %s, %v", short(s), short(got), e)
	}
	return true
}

// TestArraysBack: arrays of every rank, with atoms and without, and the longest lines that there are.
func TestArraysBack(t *testing.T) {
	var d dice
	for _, s := range goodShapes() {
		farthest := zeros(s...)
		for i := range farthest.Atoms {
			farthest.Atoms[i] = api.Min
		}
		for _, a := range []api.Array{zeros(s...), numbered(s...), farthest, d.array(s), d.array(s)} {
			checkBack(t, a)
		}
	}
	for range 5000 {
		checkBack(t, d.array(d.shape()))
	}
}

// TestNumbersBack: all numbers of few digits, and those about each power of 2 and of 10, as scalars and in lists.
func TestNumbersBack(t *testing.T) {
	var numbers []int64
	for n := int64(-1100); n <= 1100; n++ {
		numbers = append(numbers, n, api.Max+n-1100, api.Min+n+1100)
	}
	for bit := range 63 {
		numbers = append(numbers, 1<<bit-1, 1<<bit, 1<<bit+1, -1<<bit-1, -1<<bit, -1<<bit+1)
	}
	for n := int64(10); n < api.Max/10; n *= 10 {
		numbers = append(numbers, n-1, n, n+1, 1-n, -n, -1-n)
	}
	for _, n := range numbers {
		checkBack(t, scalar(n))
		checkBack(t, list(n))
		checkBack(t, list(n, -1))
	}
}

// TestTextsForth: texts that are lines of arrays, and all short ones that are.
func TestTextsForth(t *testing.T) {
	for _, s := range []string{"0", "_1", "0 0", "1 _2 30", "0 $", "1 $ 7", "2 2 $ 1 2 3 4", "0 3 $", "3 0 $", "1 1 1 1 1 1 1 1 $ 5", "0 4096 $", ones(4096), "64 64 $ " + ones(4096), "_9223372036854775808", "1 $ 9223372036854775807"} {
		if !checkForth(t, s) {
			t.Errorf("P10.3: Read(%s) is not OK", short(s))
		}
	}
	good := 0
	for n := range 7 {
		texts(" 012_$x", n, func(s string) {
			if checkForth(t, s) {
				good++
			}
		})
	}
	if good < 1000 {
		t.Errorf("the test itself: %d texts are lines", good)
	}
}

// TestRefusedForth: a text that looks much like an array's line, but is not it, is no line at all.
func TestRefusedForth(t *testing.T) {
	var d dice
	for range 3000 {
		a := d.array(d.shape())
		s := wantedFlat(a)
		for _, other := range []string{" " + s, s + " ", "0" + s, "+" + s, strings.Replace(s, " ", "  ", 1), strings.Replace(s, "$", "$ $", 1), strings.ReplaceAll(s, "_", "-"), s + "\n"} {
			if b, _, e := Read(other); other != s && e == api.OK {
				t.Errorf("P10.4: Read(%s) is OK: %s", short(other), brief(b))
			}
		}
	}
}

// TestNoTwoOneLine: of many arrays with few and small numbers no two have one line, though two may look alike.
func TestNoTwoOneLine(t *testing.T) {
	var shapes [][]int
	for rank := range 4 {
		for _, at := range counted(times(rank, 3)) {
			if sizeOf(at) <= 4 {
				shapes = append(shapes, at)
			}
		}
	}
	lines, looks, arrays := map[string]int{}, map[string]int{}, 0
	for _, s := range shapes {
		for _, at := range counted(times(sizeOf(s), 3)) {
			a := zeros(s...)
			for i, n := range at {
				a.Atoms[i] = int64(n - 1)
			}
			flat, _ := Flat(a)
			text, _ := Text(a)
			lines[flat]++
			looks[text]++
			arrays++
		}
	}
	if len(lines) != arrays {
		t.Errorf("P10.4: %d arrays have %d lines", arrays, len(lines))
	}
	if len(looks) == arrays {
		t.Errorf("the test itself: no two of %d arrays look alike", arrays)
	}
}

// TestReadMayBe: what is read is an array that may be handed in again.
func TestReadMayBe(t *testing.T) {
	for n := range 7 {
		texts(" 0129$", n, func(s string) {
			a, _, e := Read(s)
			if e == api.OK && (len(a.Shape) > 8 || len(a.Atoms) != sizeOf(a.Shape) || slices.Min(append(a.Shape, 0)) < 0) {
				t.Errorf("P10.3: Read(%q): %s", s, brief(a))
			}
		})
	}
}
