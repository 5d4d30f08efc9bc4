package atom

import (
	"slices"
	"testing"

	"abacus/api"
	"abacus/num"
)

func TestExamples(t *testing.T) {
	s, m, none := scalar(10), table(), api.Array{}
	checkMonad(t, api.PSub, m, array(lengths(2, 3), -1, -2, -3, -4, -5, -6), api.OK)
	checkDyad(t, api.PAdd, s, m, array(lengths(2, 3), 11, 12, 13, 14, 15, 16), api.OK)
	checkDyad(t, api.PMul, list(10, 100), m, array(lengths(2, 3), 10, 20, 30, 400, 500, 600), api.OK)
	checkDyad(t, api.PMul, list(1, 2, 3), m, none, api.ErrLength)
	checkDyad(t, api.PDiv, m, list(0, 0), none, api.ErrDomain)
	checkDyad(t, api.PDiv, array(lengths(0, 3)), list(), array(lengths(0, 3)), api.OK)
	checkMonad(t, api.PFact, list(21, -1), none, api.ErrOver)
	checkMonad(t, api.PFact, list(-1, 21), none, api.ErrDomain)
	checkMonad(t, api.PDiv, array(lengths(3), 1), none, api.ErrArg)
	checkMonad(t, api.PDiv, s, none, api.ErrValence)
	checkMonad(t, api.PTally, s, none, api.ErrArg)
	for _, c := range []struct {
		op, valence int
		want        bool
	}{{api.PDiv, 1, false}, {api.PDiv, 2, true}, {api.PTally, 1, false}, {api.PAdd, 3, false}} {
		checkHas(t, c.op, c.valence, c.want)
	}
}

func checkHas(t *testing.T, op, valence int, want bool) {
	t.Helper()
	if got := Has(op, valence); got != want {
		t.Errorf("P5.1: Has(%d, %d): %v", op, valence, got)
	}
}

// noValences are numbers that are neither 1 nor 2; some are by 32 or by 8 bits.
func noValences() []int {
	return []int{0, -1, -2, 3, 4, 100, least, least + 1, most, 1 << 32, 1<<32 + 1, 1<<32 + 2, 1<<8 + 1, 1<<8 + 2}
}

// TestHas: every row of the table, what is no row, and every valence.
func TestHas(t *testing.T) {
	for op := api.PAdd; op <= api.PFact; op++ {
		checkHas(t, op, 1, slices.Contains(monads(), op))
		checkHas(t, op, 2, slices.Contains(dyads(), op))
		for _, valence := range noValences() {
			checkHas(t, op, valence, false)
		}
	}
	for _, op := range noRows() {
		for _, valence := range append(noValences(), 1, 2) {
			checkHas(t, op, valence, false)
		}
	}
}

// TestHasIsSoInTheCalls: what Has tells is what Monad and Dyad do.
func TestHasIsSoInTheCalls(t *testing.T) {
	for _, op := range append(noRows(), slices.Concat(monads(), noMonads())...) {
		_, e := Monad(op, list())
		if Has(op, 1) != (e == api.OK) {
			t.Errorf("P5.1: Has(%d, 1) is %v, Monad answers %v", op, Has(op, 1), e)
		}
		_, e = Dyad(op, list(), list())
		if Has(op, 2) != (e == api.OK) {
			t.Errorf("P5.1: Has(%d, 2) is %v, Dyad answers %v", op, Has(op, 2), e)
		}
	}
}

// tame are numbers that no monad refuses.
func tame() []int64 { return []int64{2, 0, 4, 6, 20, 8, 10, 12, 14, 16, 18} }

// TestMonadRows: what each monad tells of ordinary numbers, written out.
func TestMonadRows(t *testing.T) {
	y := array(lengths(2, 2), 4, -6, 0, 20)
	for _, c := range []struct {
		op   int
		want []int64
	}{
		{api.PAdd, []int64{4, -6, 0, 20}},
		{api.PSub, []int64{-4, 6, 0, -20}},
		{api.PMul, []int64{1, -1, 0, 1}},
		{api.PRes, []int64{4, 6, 0, 20}},
		{api.PMin, []int64{4, -6, 0, 20}},
		{api.PMax, []int64{4, -6, 0, 20}},
		{api.PLe, []int64{3, -7, -1, 19}},
		{api.PGe, []int64{5, -5, 1, 21}},
		{api.PNor, []int64{8, -12, 0, 40}},
		{api.PNand, []int64{16, 36, 0, 400}},
		{api.PNot, []int64{-3, 7, 1, -19}},
		{api.PMatch, []int64{2, -3, 0, 10}},
	} {
		checkMonad(t, c.op, y, array(lengths(2, 2), c.want...), api.OK)
	}
	checkMonad(t, api.PFact, array(lengths(2, 2), 4, 1, 0, 20), array(lengths(2, 2), 24, 1, 1, 2432902008176640000), api.OK)
	checkMonad(t, api.PFact, y, api.Array{}, api.ErrDomain)
}

// TestDyadRows: what each dyad tells of ordinary numbers, written out; the sides are not alike.
func TestDyadRows(t *testing.T) {
	x, y := array(lengths(2, 2), 7, -7, 0, 2), array(lengths(2, 2), 2, 3, 5, 2)
	for _, c := range []struct {
		op   int
		want []int64
	}{
		{api.PAdd, []int64{9, -4, 5, 4}},
		{api.PSub, []int64{5, -10, -5, 0}},
		{api.PMul, []int64{14, -21, 0, 4}},
		{api.PDiv, []int64{3, -3, 0, 1}},
		{api.PRes, []int64{2, -4, 5, 0}},
		{api.PMin, []int64{2, -7, 0, 2}},
		{api.PMax, []int64{7, 3, 5, 2}},
		{api.PLess, []int64{0, 1, 1, 0}},
		{api.PMore, []int64{1, 0, 0, 0}},
		{api.PEq, []int64{0, 0, 0, 1}},
		{api.PNe, []int64{1, 1, 1, 0}},
		{api.PLe, []int64{0, 1, 1, 1}},
		{api.PGe, []int64{1, 0, 0, 1}},
		{api.PGcd, []int64{1, 1, 5, 2}},
		{api.PLcm, []int64{14, 21, 0, 2}},
		{api.PPow, []int64{49, -343, 0, 4}},
		{api.PFact, []int64{0, 0, 1, 1}},
	} {
		checkDyad(t, c.op, x, y, array(lengths(2, 2), c.want...), api.OK)
	}
	x, y = list(0, 0, 1, 1), list(0, 1, 0, 1)
	checkDyad(t, api.PNor, x, y, list(1, 0, 0, 0), api.OK)
	checkDyad(t, api.PNand, x, y, list(1, 1, 1, 0), api.OK)
	checkDyad(t, api.PNor, x, list(0, 1, 2, 1), api.Array{}, api.ErrDomain)
	checkDyad(t, api.PNand, list(0, 0, 1, -1), y, api.Array{}, api.ErrDomain)
}

// TestMonad: every monad of arrays of all shapes, those without atoms, too.
func TestMonad(t *testing.T) {
	for _, op := range monads() {
		for _, s := range goodShapes() {
			y := of(s, tame()...)
			want, e := wantedMonad(op, y)
			if e != api.OK {
				t.Fatalf("Monad(%d) refuses a number that is meant to be tame: %v", op, e)
			}
			checkMonad(t, op, y, want, api.OK)
		}
	}
}

// wild are numbers of which each verb takes some and refuses others, and not all by one error.
func wild() []int64 {
	return []int64{0, 1, 2, -1, 3, 20, 21, -2, 63, 64, 1 << 62, -1 << 62, api.Max, api.Max - 1, api.Min, api.Min + 1, 3037000500, 7, 66, 33, 34}
}

// TestMonadNumbers: every monad of each of these numbers, alone and behind one that it takes.
func TestMonadNumbers(t *testing.T) {
	for _, op := range monads() {
		for _, n := range wild() {
			for _, y := range []api.Array{scalar(n), list(n), list(0, n), list(n, 0), array(lengths(2, 1), 2, n)} {
				want, e := wantedMonad(op, y)
				checkMonad(t, op, y, want, e)
			}
		}
	}
}

// TestMonadFirstError: of two numbers that are refused by different errors the one that comes first in row order tells; all shapes, all pairs of places.
func TestMonadFirstError(t *testing.T) {
	for _, s := range [][]int{lengths(2), lengths(9), lengths(3, 3), lengths(2, 2, 3), times(4, 2)} {
		size := sizeOf(s)
		for over := range size {
			for domain := range size {
				y := of(s, 5)
				y.Atoms[over], y.Atoms[domain] = 21, -1
				e := api.ErrDomain
				if over < domain {
					e = api.ErrOver
				}
				checkMonad(t, api.PFact, y, api.Array{}, e)
			}
		}
	}
	long := of(lengths(64, 64), 3)
	long.Atoms[4095] = 21
	checkMonad(t, api.PFact, long, api.Array{}, api.ErrOver)
	long.Atoms[4094] = api.Min
	checkMonad(t, api.PFact, long, api.Array{}, api.ErrDomain)
	long.Atoms[0] = api.Max
	checkMonad(t, api.PFact, long, api.Array{}, api.ErrOver)
}

// TestMonadThrown: arrays with a number here and there that is refused.
func TestMonadThrown(t *testing.T) {
	var d dice
	for range 4000 {
		s := goodShapes()[d.throw(len(goodShapes()))]
		if sizeOf(s) > 300 {
			continue
		}
		y := d.array(s)
		for _, op := range monads() {
			want, e := wantedMonad(op, y)
			checkMonad(t, op, y, want, e)
		}
	}
}

// array throws the atoms: most of them small, few of them wild.
func (d *dice) array(s []int) api.Array {
	out := of(s, 1)
	odds := []int{2, 40, 1000}[d.throw(3)]
	for i := range out.Atoms {
		out.Atoms[i] = int64(d.throw(10))
		if d.throw(odds) == 0 {
			out.Atoms[i] = wild()[d.throw(len(wild()))]
		}
	}
	return out
}

// TestMonadErrorsInOrder: first an array that may not be, then no such row, then no monad in it, then the atoms.
func TestMonadErrorsInOrder(t *testing.T) {
	for _, op := range slices.Concat(monads(), noMonads(), noRows()) {
		for _, y := range wrongArrays() {
			checkMonad(t, op, y, api.Array{}, api.ErrArg)
		}
	}
	good := []api.Array{scalar(-1), scalar(api.Min), list(), list(21, -1), table(), array(lengths(2, 0)), array(times(8, 0)), of(lengths(4096), 7)}
	for _, y := range good {
		for _, op := range noRows() {
			checkMonad(t, op, y, api.Array{}, api.ErrArg)
		}
		for _, op := range noMonads() {
			checkMonad(t, op, y, api.Array{}, api.ErrValence)
		}
	}
}

// TestDyadErrorsInOrder: first an array that may not be on either side, then no such row, then no dyad in it, then shapes that do not agree, then the atoms.
func TestDyadErrorsInOrder(t *testing.T) {
	for _, op := range []int{api.PAdd, api.PDiv, api.PFact, api.PNot, api.PMatch, api.PTally, 0, -1, least, most} {
		for _, wrong := range wrongArrays() {
			for _, good := range []api.Array{scalar(0), list(), table(), list(1, 2, 3, 4, 5, 6, 7)} {
				checkDyad(t, op, wrong, good, api.Array{}, api.ErrArg)
				checkDyad(t, op, good, wrong, api.Array{}, api.ErrArg)
			}
			checkDyad(t, op, wrong, wrong, api.Array{}, api.ErrArg)
		}
	}
	for _, xy := range [][2]api.Array{
		{list(1, 2, 3), table()}, {table(), list(1, 2, 3)}, {list(), table()}, {list(0), list(0, 0)}, {list(), list()},
		{scalar(0), scalar(0)}, {table(), table()}, {array(lengths(0, 3)), list()}, {scalar(7), array(times(8, 0))},
	} {
		for _, op := range noRows() {
			checkDyad(t, op, xy[0], xy[1], api.Array{}, api.ErrArg)
		}
		for _, op := range noDyads() {
			checkDyad(t, op, xy[0], xy[1], api.Array{}, api.ErrValence)
		}
	}
	for _, op := range []int{api.PDiv, api.PPow, api.PFact, api.PNor, api.PNand, api.PAdd} {
		checkDyad(t, op, list(api.Min, api.Min), of(lengths(3), api.Min), api.Array{}, api.ErrLength)
		checkDyad(t, op, of(lengths(2, 3), 0), of(lengths(3), 0), api.Array{}, api.ErrLength)
	}
}

// TestDyadShapes: all pairs of shapes, with numbers by which each pair is known.
func TestDyadShapes(t *testing.T) {
	for _, sx := range goodShapes() {
		for _, sy := range goodShapes() {
			x, y := numbered(1000, sx...), numbered(5, sy...)
			for _, op := range []int{api.PMul, api.PSub} {
				want, e := wantedDyad(op, x, y)
				checkDyad(t, op, x, y, want, e)
			}
		}
	}
}

// TestDyad: every dyad of shapes of which one begins the other, on both sides, and of such of which neither does.
func TestDyad(t *testing.T) {
	var few [][]int
	for _, s := range goodShapes() {
		if sizeOf(s) <= 200 {
			few = append(few, s)
		}
	}
	for _, op := range dyads() {
		for _, sx := range few {
			for _, sy := range few {
				x, y := of(sx, 0, 1, 1, 0, 0), of(sy, 1, 1, 1)
				want, e := wantedDyad(op, x, y)
				if e != api.OK && e != api.ErrLength {
					t.Fatalf("Dyad(%d) refuses numbers that are meant to be tame: %v", op, e)
				}
				checkDyad(t, op, x, y, want, e)
			}
		}
	}
}

// TestDyadNumbers: every dyad of all pairs of these numbers, as scalars, behind others, and with a scalar on either side.
func TestDyadNumbers(t *testing.T) {
	for _, op := range dyads() {
		for _, m := range wild() {
			for _, n := range wild() {
				for _, xy := range [][2]api.Array{
					{scalar(m), scalar(n)}, {list(1, m), list(1, n)}, {list(1, m, 0), scalar(n)}, {scalar(m), list(1, n, 0)},
				} {
					want, e := wantedDyad(op, xy[0], xy[1])
					checkDyad(t, op, xy[0], xy[1], want, e)
				}
			}
		}
	}
}

// TestDyadBelow: each atom of the shorter one goes with all that lie below it, written out.
func TestDyadBelow(t *testing.T) {
	long := numbered(1, 2, 3, 2)
	x := array(lengths(2, 3), 100, 200, 300, 400, 500, 600)
	checkDyad(t, api.PAdd, x, long, array(lengths(2, 3, 2), 101, 102, 203, 204, 305, 306, 407, 408, 509, 510, 611, 612), api.OK)
	checkDyad(t, api.PSub, long, x, array(lengths(2, 3, 2), -99, -98, -197, -196, -295, -294, -393, -392, -491, -490, -589, -588), api.OK)
	checkDyad(t, api.PSub, list(100, 200), long, array(lengths(2, 3, 2), 99, 98, 97, 96, 95, 94, 193, 192, 191, 190, 189, 188), api.OK)
	checkDyad(t, api.PSub, long, list(100, 200), array(lengths(2, 3, 2), -99, -98, -97, -96, -95, -94, -193, -192, -191, -190, -189, -188), api.OK)
	checkDyad(t, api.PSub, long, scalar(1), numbered(0, 2, 3, 2), api.OK)
	checkDyad(t, api.PSub, scalar(1), list(1, 2, 5), list(0, -1, -4), api.OK)
	checkDyad(t, api.PSub, list(7), table(), api.Array{}, api.ErrLength)
	checkDyad(t, api.PSub, array(lengths(1, 3), 1, 2, 3), table(), api.Array{}, api.ErrLength)
	checkDyad(t, api.PSub, array(lengths(3, 2), 1, 2, 3, 4, 5, 6), table(), api.Array{}, api.ErrLength)
	checkDyad(t, api.PSub, scalar(9), scalar(4), scalar(5), api.OK)
	checkDyad(t, api.PSub, scalar(9), list(4), list(5), api.OK)
	checkDyad(t, api.PSub, list(9), scalar(4), list(5), api.OK)
	checkDyad(t, api.PSub, array(times(8, 1), 9), list(4), array(times(8, 1), 5), api.OK)
}

// TestDyadWithoutAtoms: no pair is refused where there is none, whatever stands on the side that has atoms.
func TestDyadWithoutAtoms(t *testing.T) {
	for _, op := range dyads() {
		for _, s := range [][]int{lengths(0), lengths(0, 3), lengths(3, 0), lengths(2, 0, 4), times(8, 0), lengths(4096, 0)} {
			none := array(s)
			for _, n := range []int64{0, -1, 2, api.Min, api.Max} {
				checkDyad(t, op, none, scalar(n), none, api.OK)
				checkDyad(t, op, scalar(n), none, none, api.OK)
				if s[0] > 0 {
					checkDyad(t, op, none, of(s[:1], n), none, api.OK)
					checkDyad(t, op, of(s[:1], n), none, none, api.OK)
				}
			}
			checkDyad(t, op, none, none, none, api.OK)
			checkDyad(t, op, none, array(s[:1], of(s[:1], 0).Atoms...), none, api.OK)
		}
		checkDyad(t, op, list(), list(0), api.Array{}, api.ErrLength)
		checkDyad(t, op, array(lengths(0, 3)), array(lengths(0, 2)), api.Array{}, api.ErrLength)
	}
	for _, op := range monads() {
		for _, s := range [][]int{lengths(0), lengths(0, 3), lengths(3, 0), times(8, 0)} {
			checkMonad(t, op, array(s), array(s), api.OK)
		}
	}
}

// TestDyadFirstError: of two pairs that are refused by different errors the one that comes first in row order tells; the pairs are those of x, of y, or of both.
func TestDyadFirstError(t *testing.T) {
	for _, s := range [][]int{lengths(8), lengths(3, 3), lengths(2, 2, 3)} {
		size := sizeOf(s)
		for over := range size {
			for domain := range size {
				if over == domain {
					continue
				}
				e := api.ErrDomain
				if over < domain {
					e = api.ErrOver
				}
				x, y := of(s, 6), of(s, 2)
				x.Atoms[over], y.Atoms[over], y.Atoms[domain] = api.Min, -1, 0
				checkDyad(t, api.PDiv, x, y, api.Array{}, e)
				y = of(s, 1)
				y.Atoms[over], y.Atoms[domain] = 63, -1
				checkDyad(t, api.PPow, scalar(2), y, api.Array{}, e)
				y.Atoms[over], y.Atoms[domain] = 67, -1
				checkDyad(t, api.PFact, scalar(33), y, api.Array{}, e)
				x = of(s, 6)
				x.Atoms[over], x.Atoms[domain] = api.Max, 2
				checkDyad(t, api.PNor, x, scalar(0), api.Array{}, api.ErrDomain)
				x.Atoms[domain] = 0
				checkDyad(t, api.PAdd, x, scalar(1), api.Array{}, api.ErrOver)
			}
		}
	}
	// Two atoms of the shorter one, each with three below it: it is the order of the longer one that tells.
	checkDyad(t, api.PPow, list(0, 2), array(lengths(2, 3), 1, 1, -1, 63, 1, 1), api.Array{}, api.ErrDomain)
	checkDyad(t, api.PPow, list(2, 0), array(lengths(2, 3), 1, 1, 63, -1, 1, 1), api.Array{}, api.ErrOver)
	checkDyad(t, api.PDiv, array(lengths(2, 3), 1, 1, api.Min, 1, 1, 1), list(-1, 0), api.Array{}, api.ErrOver)
	checkDyad(t, api.PDiv, array(lengths(2, 3), 1, 1, 1, api.Min, 1, 1), list(0, -1), api.Array{}, api.ErrDomain)
	checkDyad(t, api.PDiv, of(lengths(64, 64), 1), of(lengths(64), append(slices.Repeat([]int64{1}, 63), 0)...), api.Array{}, api.ErrDomain)
}

// TestDyadThrown: arrays of shapes that mostly agree, with a number here and there that is refused.
func TestDyadThrown(t *testing.T) {
	var d dice
	for range 6000 {
		s := goodShapes()[d.throw(len(goodShapes()))]
		if sizeOf(s) > 100 {
			continue
		}
		other := s[:d.throw(len(s)+1)]
		if d.throw(10) == 0 {
			other = goodShapes()[d.throw(7)]
		}
		x, y := d.array(s), d.array(other)
		if d.throw(2) == 0 {
			x, y = y, x
		}
		op := dyads()[d.throw(len(dyads()))]
		want, e := wantedDyad(op, x, y)
		checkDyad(t, op, x, y, want, e)
	}
}

// TestMonadOfMonad: what follows: one go over the atoms does the same.
func TestMonadOfMonad(t *testing.T) {
	y := of(lengths(3, 4), tame()...)
	for _, u := range monads() {
		for _, v := range monads() {
			inner, _ := Monad(v, y)
			want := api.Array{Shape: y.Shape}
			wantE := api.OK
			for _, n := range y.Atoms {
				n, _ = num.Monad(v, n)
				n, e := num.Monad(u, n)
				if e != api.OK {
					want, wantE = api.Array{}, e
					break
				}
				want.Atoms = append(want.Atoms, n)
			}
			checkMonad(t, u, inner, want, wantE)
		}
	}
}

// TestFar: no call panics, whatever lengths, ops and valences it is given.
func TestFar(t *testing.T) {
	odd := append(wrongArrays(), scalar(1), list(), table())
	for _, op := range append(noRows(), api.PAdd, api.PNot, api.PDiv) {
		for i, x := range odd {
			y := odd[(i*7+3)%len(odd)]
			for _, call := range []func() (api.Array, api.Errno){
				func() (api.Array, api.Errno) { return Monad(op, x) },
				func() (api.Array, api.Errno) { return Dyad(op, x, y) },
			} {
				if a, e := call(); e != api.OK && len(a.Shape)+len(a.Atoms) > 0 {
					t.Errorf("P0.2: op %d of %s: %s beside %v", op, brief(x), brief(a), e)
				}
			}
		}
	}
}
