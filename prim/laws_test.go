package prim

import (
	"slices"
	"testing"

	"abacus/api"
)

// commuting are the ops of which the chapter says so.
func commuting() []int { return opsWhere(func(l line) bool { return l.commutes == "yes" }) }

func checkCommutes(t *testing.T, op int, x, y api.Array) {
	t.Helper()
	a, e := Dyad(op, x, y)
	b, f := Dyad(op, y, x)
	if e != f || !alike(a, b) {
		t.Errorf("P9.5: Dyad of %d: %s and %s: %s, %v; the other way round %s, %v", op, brief(x), brief(y), brief(a), e, brief(b), f)
	}
}

// farNumbers are those at which sums, products and the like leave 64 bits, and those around 0.
func farNumbers() []int64 {
	return []int64{api.Min, api.Min + 1, api.Min / 2, -1 << 32, -7, -2, -1, 0, 1, 2, 3, 12, 18, 3037000499, 3037000500, 1 << 32, 1 << 62, api.Max - 1, api.Max}
}

// TestCommutes: all pairs of far numbers, arrays whose shapes do and do not agree, and arrays that may not be.
func TestCommutes(t *testing.T) {
	if n := len(commuting()); n != 11 {
		t.Fatalf("the test itself: %d rows", n)
	}
	for _, op := range commuting() {
		for _, m := range farNumbers() {
			for _, n := range farNumbers() {
				checkCommutes(t, op, scalar(m), scalar(n))
				checkCommutes(t, op, list(1, m, 0), list(0, 1, n))
				checkCommutes(t, op, scalar(m), list(0, 1, n))
				checkCommutes(t, op, list(m, n), table())
				checkCommutes(t, op, list(m, n), array(lengths(2, 2), m, n, 1, 0))
			}
		}
		for _, a := range fewShapes() {
			for _, b := range few() {
				checkCommutes(t, op, numbered(a...), numbered(b...))
				checkCommutes(t, op, counting(2, a...), counting(3, b...))
				checkCommutes(t, op, zeros(a...), zeros(b...))
			}
		}
		for _, wrong := range []api.Array{{}, array(lengths(2), 1), array(lengths(-1)), array(times(9, 1), 1), array(lengths(4097), make([]int64, 4097)...)} {
			for _, good := range someGood() {
				checkCommutes(t, op, wrong, good)
			}
			checkCommutes(t, op, wrong, array(lengths(1)))
		}
		if t.Failed() {
			return
		}
	}
}

// TestCommutesThrown: arrays of thrown shapes and numbers.
func TestCommutesThrown(t *testing.T) {
	d := dice(5)
	for range 2000 {
		for _, op := range commuting() {
			s := d.shape(3)
			checkCommutes(t, op, d.array(s), d.array(d.longer(s, 4)))
		}
		if t.Failed() {
			return
		}
	}
}

// identical are the ops that have an identity by the chapter.
func identical() []line {
	return slices.DeleteFunc(catalogue(), func(l line) bool { return l.identity == "" })
}

// fromTheRight are the ops whose identity stands to the right.
func fromTheRight() []int { return []int{api.PSub, api.PDiv, api.PMore, api.PGe, api.PPow} }

// ofTruths are those of which the promise speaks for atoms of 0 and 1 alone, notBelow0 for no atom below 0.

func ofTruths() []int {
	return []int{api.PLess, api.PMore, api.PEq, api.PNe, api.PLe, api.PGe}
}

func notBelow0() []int { return []int{api.PGcd, api.PLcm, api.PFact} }

// spoken are the numbers for which the promise speaks of an op.
func spoken(op int) []int64 {
	switch {
	case slices.Contains(ofTruths(), op):
		return []int64{0, 1}
	case slices.Contains(notBelow0(), op):
		return slices.DeleteFunc(farNumbers(), func(n int64) bool { return n < 0 })
	}
	return farNumbers()
}

// checkIdentity holds an array beside its identity against itself.
func checkIdentity(t *testing.T, op int, y api.Array) {
	t.Helper()
	p, _ := Info(op)
	if !p.Has {
		t.Errorf("P9.6: Info(%d) tells no identity", op)
	}
	a := zeros(y.Shape...)
	for i := range a.Atoms {
		a.Atoms[i] = p.Identity
	}
	got, e := Dyad(op, a, y)
	if slices.Contains(fromTheRight(), op) {
		got, e = Dyad(op, y, a)
	}
	if e != api.OK || !alike(got, y) {
		t.Errorf("P9.6: %d, %s beside %d: %s, %v", op, brief(y), p.Identity, brief(got), e)
	}
}

// TestIdentities: every row that has one, by arrays of all shapes and numbers, the least and the greatest among them.
func TestIdentities(t *testing.T) {
	if n := len(identical()); n != 17 {
		t.Fatalf("the test itself: %d rows", n)
	}
	for _, l := range identical() {
		numbers := spoken(l.op)
		for _, n := range numbers {
			checkIdentity(t, l.op, scalar(n))
			checkIdentity(t, l.op, list(n))
		}
		checkIdentity(t, l.op, list(numbers...))
		for _, s := range goodShapes() {
			y := zeros(s...)
			for i := range y.Atoms {
				y.Atoms[i] = numbers[i%len(numbers)]
			}
			checkIdentity(t, l.op, y)
		}
	}
}

// TestNoIdentity: the rows without one tell 0 beside false.
func TestNoIdentity(t *testing.T) {
	for op := 1; op <= api.Prims; op++ {
		if p, _ := Info(op); !p.Has && p.Identity != 0 {
			t.Errorf("P9.2: Info(%d) tells the identity %d beside false", op, p.Identity)
		}
	}
}
