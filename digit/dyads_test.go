package digit

import (
	"slices"
	"testing"

	"abacus/api"
)

// said is a call of Dyad and what it is to answer.
type said struct {
	op         int
	x, y, want api.Array
	e          api.Errno
}

func checkSaid(t *testing.T, cases []said) {
	t.Helper()
	for _, c := range cases {
		checkDyad(t, c.op, c.x, c.y, c.want, c.e)
	}
}

func TestDyadExamples(t *testing.T) {
	tab, none := table(), api.Array{}
	checkSaid(t, []said{
		{api.PTally, scalar(2), tab, array(lengths(4, 3), 1, 2, 3, 1, 2, 3, 4, 5, 6, 4, 5, 6), api.OK}, {api.PTally, list(0, 2), tab, array(lengths(2, 3), 4, 5, 6, 4, 5, 6), api.OK}, {api.PTally, scalar(3), scalar(7), list(7, 7, 7), api.OK}, {api.PTally, list(1, 2), scalar(7), list(7, 7, 7), api.OK}, {api.PTally, list(1, 1, 1), tab, none, api.ErrLength}, {api.PTally, scalar(-1), tab, none, api.ErrDomain},
		{api.PBase, scalar(10), list(3, 4, 5), scalar(345), api.OK}, {api.PBase, list(24, 60, 60), list(1, 2, 3), scalar(3723), api.OK}, {api.PBase, list(1, 2), list(1, 2, 3), none, api.ErrLength}, {api.PBase, list(2, 2, 2), scalar(1), scalar(7), api.OK},
		{api.PBase, scalar(1 << 62), list(2, 1), none, api.ErrOver}, {api.PBase, scalar(1 << 62), list(1, 1), scalar(4611686018427387905), api.OK},
		{api.PAnti, list(24, 60, 60), scalar(3723), list(1, 2, 3), api.OK}, {api.PAnti, scalar(10), scalar(345), scalar(5), api.OK}, {api.PAnti, list(0, 10), scalar(345), list(34, 5), api.OK}, {api.PAnti, list(10, 10), scalar(-1), list(9, 9), api.OK}, {api.PAnti, list(-1), scalar(api.Min), none, api.ErrOver},
		{api.PIota, tab, tab, none, api.ErrValence},
	})
}

// TestCopiesEdges: scalars on either side, no items and no numbers, items without atoms, arrays of rank 8.
func TestCopiesEdges(t *testing.T) {
	tab := table()
	eight := array(append(lengths(2), times(7, 1)...), 5, 6)
	checkSaid(t, []said{
		{api.PTally, scalar(0), tab, array(lengths(0, 3)), api.OK}, {api.PTally, scalar(1), tab, tab, api.OK}, {api.PTally, list(1, 1), tab, tab, api.OK}, {api.PTally, list(0, 0), tab, array(lengths(0, 3)), api.OK}, {api.PTally, list(2, 1), tab, array(lengths(3, 3), 1, 2, 3, 1, 2, 3, 4, 5, 6), api.OK}, {api.PTally, list(1, 0, 2), list(7, 8, 9), list(7, 9, 9), api.OK}, {api.PTally, scalar(2), list(7, 8), list(7, 7, 8, 8), api.OK}, {api.PTally, list(3), list(7), list(7, 7, 7), api.OK}, {api.PTally, list(2), array(lengths(1, 2), 7, 8), array(lengths(2, 2), 7, 8, 7, 8), api.OK},
		{api.PTally, scalar(0), scalar(7), list(), api.OK}, {api.PTally, scalar(1), scalar(7), list(7), api.OK}, {api.PTally, list(), scalar(7), list(), api.OK}, {api.PTally, list(3), scalar(7), list(7, 7, 7), api.OK}, {api.PTally, list(0, 0), scalar(7), list(), api.OK}, {api.PTally, list(2, 0, 1), scalar(api.Min), list(api.Min, api.Min, api.Min), api.OK}, {api.PTally, scalar(2), list(), list(), api.OK}, {api.PTally, list(), list(), list(), api.OK},
		{api.PTally, list(), array(lengths(0, 3)), array(lengths(0, 3)), api.OK}, {api.PTally, scalar(5), array(lengths(0, 3)), array(lengths(0, 3)), api.OK}, {api.PTally, scalar(api.Max), array(lengths(0, 3)), array(lengths(0, 3)), api.OK}, {api.PTally, scalar(api.Max), list(), list(), api.OK}, {api.PTally, scalar(4097), array(lengths(0, 4096)), array(lengths(0, 4096)), api.OK}, {api.PTally, scalar(api.Max), array(times(8, 0)), array(times(8, 0)), api.OK},
		{api.PTally, scalar(2), array(lengths(3, 0)), array(lengths(6, 0)), api.OK}, {api.PTally, list(1, 2, 3), array(lengths(3, 0)), array(lengths(6, 0)), api.OK}, {api.PTally, list(0, 0, 0), array(lengths(3, 0)), array(lengths(0, 0)), api.OK}, {api.PTally, list(2, 1), array(lengths(2, 0, 4)), array(lengths(3, 0, 4)), api.OK}, {api.PTally, scalar(1365), array(lengths(3, 0)), array(lengths(4095, 0)), api.OK}, {api.PTally, scalar(0), array(lengths(4096, 0)), array(lengths(0, 0)), api.OK},
		{api.PTally, list(2, 1), eight, array(append(lengths(3), times(7, 1)...), 5, 5, 6), api.OK}, {api.PTally, scalar(0), eight, array(append(lengths(0), times(7, 1)...)), api.OK}, {api.PTally, scalar(2), array(times(8, 1), 9), array(append(lengths(2), times(7, 1)...), 9, 9), api.OK}, {api.PTally, list(1, 0), numbered(times(8, 2)...), array(append(lengths(1), times(7, 2)...), numbered(times(8, 2)...).Atoms[:128]...), api.OK},
	})
}

// TestCopiesErrors: the lengths ahead of a number below 0, that ahead of what is too great, wherever they stand.
func TestCopiesErrors(t *testing.T) {
	tab, none := table(), api.Array{}
	checkSaid(t, []said{
		{api.PTally, list(1), tab, none, api.ErrLength}, {api.PTally, list(), tab, none, api.ErrLength}, {api.PTally, list(-1), tab, none, api.ErrLength}, {api.PTally, list(4097, 1, -1), tab, none, api.ErrLength}, {api.PTally, list(1, 1, 1, 1, 1, 1), tab, none, api.ErrLength}, {api.PTally, list(1), list(), none, api.ErrLength}, {api.PTally, list(1), array(lengths(0, 1)), none, api.ErrLength}, {api.PTally, list(), list(7), none, api.ErrLength}, {api.PTally, list(1, 1), list(7), none, api.ErrLength}, {api.PTally, list(1, 1), array(times(8, 1), 7), none, api.ErrLength}, {api.PTally, list(1), array(lengths(3, 0)), none, api.ErrLength}, {api.PTally, list(0), array(times(8, 0)), none, api.ErrLength}, {api.PTally, list(1), list(7, 8), none, api.ErrLength},
		{api.PTally, list(1, -1), tab, none, api.ErrDomain}, {api.PTally, list(-1, 1), tab, none, api.ErrDomain}, {api.PTally, list(4097, -1), tab, none, api.ErrDomain}, {api.PTally, list(-1, 4097), tab, none, api.ErrDomain}, {api.PTally, list(api.Max, api.Min), tab, none, api.ErrDomain}, {api.PTally, scalar(-1), scalar(7), none, api.ErrDomain}, {api.PTally, scalar(api.Min), scalar(7), none, api.ErrDomain}, {api.PTally, list(1, -1), scalar(7), none, api.ErrDomain}, {api.PTally, list(api.Max, 1, -1), scalar(7), none, api.ErrDomain}, {api.PTally, list(-2), list(7), none, api.ErrDomain},
		// Beside no items, too.
		{api.PTally, scalar(-1), list(), none, api.ErrDomain}, {api.PTally, scalar(api.Min), array(lengths(0, 3)), none, api.ErrDomain}, {api.PTally, scalar(-1), array(lengths(3, 0)), none, api.ErrDomain}, {api.PTally, scalar(-1), array(times(8, 0)), none, api.ErrDomain},
		{api.PTally, scalar(4097), scalar(7), none, api.ErrSize}, {api.PTally, list(4097), scalar(7), none, api.ErrSize}, {api.PTally, list(4096, 1), scalar(7), none, api.ErrSize}, {api.PTally, scalar(api.Max), scalar(7), none, api.ErrSize}, {api.PTally, scalar(api.Max), tab, none, api.ErrSize}, {api.PTally, scalar(1 << 62), zeros(4), none, api.ErrSize}, {api.PTally, scalar(1 << 63 / 64), zeros(128), none, api.ErrSize}, {api.PTally, scalar(1 << 32), list(7), none, api.ErrSize},
		{api.PTally, list(api.Max, 1), tab, none, api.ErrSize}, {api.PTally, list(1, api.Max), tab, none, api.ErrSize}, {api.PTally, list(1, api.Max, 1), list(7, 8, 9), none, api.ErrSize}, {api.PTally, list(api.Max, api.Max, 2), list(7, 8, 9), none, api.ErrSize}, {api.PTally, list(api.Max, api.Max, 3), array(lengths(3, 0)), none, api.ErrSize},
	})
}

// TestCopiesAtTheLimit: answers of just as many atoms as there may be, and of some more; lengths of 0 do not make a great one less.
func TestCopiesAtTheLimit(t *testing.T) {
	none := api.Array{}
	first := rises(4096)
	checkSaid(t, []said{
		{api.PTally, scalar(4096), scalar(7), repeats(4096, 7), api.OK}, {api.PTally, list(4095, 1), scalar(7), repeats(4096, 7), api.OK}, {api.PTally, repeats(4096, 1), scalar(7), repeats(4096, 7), api.OK}, {api.PTally, repeats(4096, 1), first, first, api.OK}, {api.PTally, scalar(1), first, first, api.OK}, {api.PTally, scalar(2), first, none, api.ErrSize}, {api.PTally, scalar(2), rises(2049), none, api.ErrSize}, {api.PTally, scalar(4096), list(7), repeats(4096, 7), api.OK}, {api.PTally, scalar(2048), list(7, 7), repeats(4096, 7), api.OK}, {api.PTally, scalar(2049), list(7, 7), none, api.ErrSize},
		{api.PTally, scalar(64), zeros(1, 64), zeros(64, 64), api.OK}, {api.PTally, scalar(65), zeros(1, 64), none, api.ErrSize}, {api.PTally, list(32, 32), zeros(2, 64), zeros(64, 64), api.OK}, {api.PTally, list(32, 33), zeros(2, 64), none, api.ErrSize}, {api.PTally, list(33, 32), zeros(2, 64), none, api.ErrSize}, {api.PTally, scalar(2), zeros(1, 4096), none, api.ErrSize}, {api.PTally, scalar(1), zeros(1, 4096), zeros(1, 4096), api.OK}, {api.PTally, scalar(0), zeros(1, 4096), array(lengths(0, 4096)), api.OK},
		{api.PTally, scalar(4096), array(lengths(1, 0)), array(lengths(4096, 0)), api.OK}, {api.PTally, scalar(4097), array(lengths(1, 0)), none, api.ErrSize}, {api.PTally, scalar(2), array(lengths(4096, 0)), none, api.ErrSize}, {api.PTally, scalar(5000), array(lengths(3, 0)), none, api.ErrSize}, {api.PTally, scalar(2), array(lengths(64, 0, 64)), none, api.ErrSize}, {api.PTally, scalar(1), array(lengths(64, 0, 64)), array(lengths(64, 0, 64)), api.OK}, {api.PTally, scalar(0), array(lengths(64, 0, 64)), array(lengths(0, 0, 64)), api.OK},
		{api.PTally, scalar(16), zeros(times(8, 2)...), zeros(append(lengths(32), times(7, 2)...)...), api.OK}, {api.PTally, scalar(17), zeros(times(8, 2)...), none, api.ErrSize},
	})
	last := zeros(4096)
	last.Atoms[4095] = 4096
	checkDyad(t, api.PTally, last, first, repeats(4096, 4095), api.OK)
	last.Atoms[4095] = 4097
	checkDyad(t, api.PTally, last, first, none, api.ErrSize)
	more := repeats(4096, 1)
	more.Atoms[2000] = 2
	checkDyad(t, api.PTally, more, first, none, api.ErrSize)
	more.Atoms[4095] = -1
	checkDyad(t, api.PTally, more, first, none, api.ErrDomain)
}

// TestBaseEdges: scalars on either side, no numbers, bases of 0 and below.
func TestBaseEdges(t *testing.T) {
	none := api.Array{}
	checkSaid(t, []said{
		{api.PBase, scalar(10), scalar(7), scalar(7), api.OK}, {api.PBase, scalar(0), scalar(7), scalar(7), api.OK}, {api.PBase, scalar(10), list(), scalar(0), api.OK}, {api.PBase, list(), scalar(7), scalar(0), api.OK}, {api.PBase, list(), list(), scalar(0), api.OK}, {api.PBase, scalar(api.Min), list(), scalar(0), api.OK}, {api.PBase, list(), scalar(api.Min), scalar(0), api.OK}, {api.PBase, list(10), list(7), scalar(7), api.OK}, {api.PBase, list(10), scalar(7), scalar(7), api.OK}, {api.PBase, scalar(10), list(7), scalar(7), api.OK},
		{api.PBase, list(10), list(7, 8), none, api.ErrLength}, {api.PBase, list(10, 10), list(7), none, api.ErrLength}, {api.PBase, list(), list(7), none, api.ErrLength}, {api.PBase, list(10), list(), none, api.ErrLength}, {api.PBase, list(1, api.Max, 2), list(api.Max, 1), none, api.ErrLength}, {api.PBase, list(1, 2, 3), list(1, 2), none, api.ErrLength}, {api.PBase, numbered(4096), numbered(4095), none, api.ErrLength},
		{api.PBase, scalar(-10), list(3, 4, 5), scalar(265), api.OK}, {api.PBase, scalar(0), list(3, 4, 5), scalar(5), api.OK}, {api.PBase, scalar(1), list(3, 4, 5), scalar(12), api.OK}, {api.PBase, scalar(-1), list(3, 4, 5), scalar(4), api.OK}, {api.PBase, scalar(10), list(-3, 4, 15), scalar(-245), api.OK}, {api.PBase, list(99, 10, 0), list(3, 4, 5), scalar(5), api.OK}, {api.PBase, list(99, 0, 10), list(3, 4, 5), scalar(45), api.OK}, {api.PBase, list(0, 10, 10), list(3, 4, 5), scalar(345), api.OK}, {api.PBase, list(3, 4, 5), scalar(2), scalar(2*20 + 2*5 + 2), api.OK}, {api.PBase, scalar(1), repeats(4096, 1), scalar(4096), api.OK}, {api.PBase, repeats(4096, 1), scalar(-1), scalar(-4096), api.OK},
	})
}

// TestBaseLeaves: products and sums that leave 64 bits, or just do not, at a number early and late. (At the first one neither can: 0 times anything is 0.)
func TestBaseLeaves(t *testing.T) {
	none := api.Array{}
	checkSaid(t, []said{
		{api.PBase, scalar(api.Max), scalar(api.Max), scalar(api.Max), api.OK}, {api.PBase, scalar(api.Min), scalar(api.Min), scalar(api.Min), api.OK}, {api.PBase, list(api.Min), list(api.Max), scalar(api.Max), api.OK}, {api.PBase, list(api.Max, 1, 1), list(api.Max, 0, 0), scalar(api.Max), api.OK}, {api.PBase, list(api.Min, 1, 1), list(api.Min, 0, 0), scalar(api.Min), api.OK},
		// The second number.
		{api.PBase, list(1, 2, 1), list(1<<62, 0, 0), none, api.ErrOver}, {api.PBase, list(1, 2, 0), list(1<<62, -1, 0), none, api.ErrOver}, {api.PBase, list(1, 1, 0), list(api.Max, 1, 0), none, api.ErrOver}, {api.PBase, list(1, 1, 0), list(api.Min, -1, 5), none, api.ErrOver}, {api.PBase, list(1, -1, 1), list(api.Min, 0, 0), none, api.ErrOver}, {api.PBase, list(1, -1, 1), list(api.Min, -1, 0), none, api.ErrOver}, {api.PBase, list(1, -1), list(api.Max, -1), scalar(api.Min), api.OK}, {api.PBase, list(1, -1), list(api.Max, -2), none, api.ErrOver}, {api.PBase, list(1, -2), list(1<<62, 0), scalar(api.Min), api.OK}, {api.PBase, list(1, -2), list(1<<62, -1), none, api.ErrOver},
		// One in the middle, with a base of 0 behind it.
		{api.PBase, list(1, 1, 2, 0, 1), list(1, 1<<62, 0, 5, 5), none, api.ErrOver}, {api.PBase, list(1, 1, 1, 0, 1), list(1, api.Max-1, 1, 5, 5), none, api.ErrOver}, {api.PBase, list(1, 1, 1, 0, 1), list(1, api.Max-1, 0, 5, 5), scalar(10), api.OK}, {api.PBase, list(1, 3, 3, 0, 1), list(api.Max/9, 0, 8, 5, 5), none, api.ErrOver}, {api.PBase, list(1, 3, 3, 0, 1), list(api.Max/9, 0, 7, 5, 5), scalar(10), api.OK},
		// The last one.
		{api.PBase, list(1, 1, 1), list(api.Max, 0, 1), none, api.ErrOver}, {api.PBase, list(1, 1, 2), list(1<<61, 1<<61, 0), none, api.ErrOver}, {api.PBase, scalar(10), list(922337203685477580, 7), scalar(api.Max), api.OK}, {api.PBase, scalar(10), list(922337203685477580, 8), none, api.ErrOver}, {api.PBase, scalar(10), list(-922337203685477580, -8), scalar(api.Min), api.OK}, {api.PBase, scalar(10), list(-922337203685477580, -9), none, api.ErrOver}, {api.PBase, scalar(10), list(922337203685477581, -3), none, api.ErrOver}, {api.PBase, scalar(1 << 32), list(1, 0), scalar(1 << 32), api.OK}, {api.PBase, scalar(1 << 32), list(1<<31, 0), none, api.ErrOver}, {api.PBase, scalar(1 << 32), list(-1<<31, 0), scalar(api.Min), api.OK}, {api.PBase, scalar(1 << 32), list(1, 0, 0), none, api.ErrOver}, {api.PBase, scalar(2), repeats(4096, 1), none, api.ErrOver}, {api.PBase, repeats(4096, -2), scalar(1), none, api.ErrOver},
	})
}

// TestDigitsEdges: a scalar and no numbers as x, bases of 0 and below, numbers below 0 and the farthest ones.
func TestDigitsEdges(t *testing.T) {
	checkSaid(t, []said{
		{api.PAnti, list(), scalar(345), list(), api.OK}, {api.PAnti, list(), scalar(api.Min), list(), api.OK}, {api.PAnti, list(10), scalar(345), list(5), api.OK}, {api.PAnti, scalar(0), scalar(345), scalar(345), api.OK}, {api.PAnti, list(0), scalar(-345), list(-345), api.OK}, {api.PAnti, list(0, 0), scalar(345), list(0, 345), api.OK}, {api.PAnti, list(10, 0, 10), scalar(345), list(0, 34, 5), api.OK}, {api.PAnti, list(0, 0, 10), scalar(-345), list(0, -35, 5), api.OK}, {api.PAnti, list(-1, 0), scalar(api.Min), list(0, api.Min), api.OK}, {api.PAnti, list(5, 0), scalar(7), list(0, 7), api.OK},
		{api.PAnti, list(10, 10, 10), scalar(345), list(3, 4, 5), api.OK}, {api.PAnti, list(10, 10), scalar(345), list(4, 5), api.OK}, {api.PAnti, list(10, 10, 10, 10), scalar(345), list(0, 3, 4, 5), api.OK}, {api.PAnti, list(10, 10, 10), scalar(-345), list(6, 5, 5), api.OK}, {api.PAnti, list(1, 1), scalar(345), list(0, 0), api.OK}, {api.PAnti, list(10, 10), scalar(0), list(0, 0), api.OK}, {api.PAnti, list(0, 60, 60), scalar(-1), list(-1, 59, 59), api.OK}, {api.PAnti, list(3, 5, 7), scalar(104), list(2, 4, 6), api.OK}, {api.PAnti, list(3, 5, 7), scalar(105), list(0, 0, 0), api.OK},
		{api.PAnti, scalar(-10), scalar(345), scalar(-5), api.OK}, {api.PAnti, scalar(-10), scalar(-345), scalar(-5), api.OK}, {api.PAnti, scalar(-10), scalar(340), scalar(0), api.OK}, {api.PAnti, list(0, -10), scalar(345), list(-35, -5), api.OK}, {api.PAnti, list(0, -10), scalar(-345), list(34, -5), api.OK}, {api.PAnti, list(0, 10), scalar(-345), list(-35, 5), api.OK}, {api.PAnti, list(0, -10), scalar(340), list(-34, 0), api.OK}, {api.PAnti, list(0, -1), scalar(345), list(-345, 0), api.OK}, {api.PAnti, list(7, -3), scalar(5), list(5, -1), api.OK}, {api.PAnti, list(0, -10, 10), scalar(345), list(-4, -6, 5), api.OK},
		{api.PAnti, list(0, 10), scalar(api.Max), list(api.Max/10, 7), api.OK}, {api.PAnti, list(0, 10), scalar(api.Min), list(api.Min/10-1, 2), api.OK}, {api.PAnti, list(0, api.Max), scalar(api.Max), list(1, 0), api.OK}, {api.PAnti, list(0, api.Min), scalar(api.Min), list(1, 0), api.OK}, {api.PAnti, list(0, api.Max), scalar(api.Min), list(-2, api.Max-1), api.OK}, {api.PAnti, list(0, api.Min), scalar(api.Max), list(-1, -1), api.OK}, {api.PAnti, list(0, api.Max), scalar(-1), list(-1, api.Max-1), api.OK}, {api.PAnti, list(0, api.Min), scalar(1), list(-1, api.Min+1), api.OK}, {api.PAnti, list(0, api.Min), scalar(-1), list(0, -1), api.OK}, {api.PAnti, list(0, 1), scalar(api.Min), list(api.Min, 0), api.OK}, {api.PAnti, list(0, -1), scalar(api.Max), list(api.Min+1, 0), api.OK}, {api.PAnti, list(0, -1), scalar(api.Min + 1), list(api.Max, 0), api.OK},
		{api.PAnti, repeats(64, 2), scalar(api.Min), list(append([]int64{1}, make([]int64, 63)...)...), api.OK}, {api.PAnti, repeats(64, 2), scalar(-1), repeats(64, 1), api.OK}, {api.PAnti, repeats(4096, 2), scalar(-1), repeats(4096, 1), api.OK}, {api.PAnti, repeats(4096, 0), scalar(0), zeros(4096), api.OK}, {api.PAnti, repeats(4096, -1), scalar(5), zeros(4096), api.OK},
	})
}

// TestDigitsLeave: the quotient that leaves 64 bits, at the last, a middle and the first number; behind one that makes it less it does not.
func TestDigitsLeave(t *testing.T) {
	none := api.Array{}
	checkSaid(t, []said{
		{api.PAnti, scalar(-1), scalar(api.Min), none, api.ErrOver}, {api.PAnti, list(10, 10, -1), scalar(api.Min), none, api.ErrOver}, {api.PAnti, list(0, -1), scalar(api.Min), none, api.ErrOver}, {api.PAnti, list(10, -1, 1), scalar(api.Min), none, api.ErrOver}, {api.PAnti, list(-1, 1, 1), scalar(api.Min), none, api.ErrOver}, {api.PAnti, list(-1, -1), scalar(api.Min), none, api.ErrOver}, {api.PAnti, append1(repeats(4095, 1), -1), scalar(api.Min), none, api.ErrOver},
		{api.PAnti, list(-1, 0, 1), scalar(api.Min), list(0, api.Min, 0), api.OK}, {api.PAnti, list(-1, 2), scalar(api.Min), list(0, 0), api.OK}, {api.PAnti, list(-1, 10), scalar(api.Min), list(0, 2), api.OK}, {api.PAnti, list(-1, -1), scalar(api.Min + 1), list(0, 0), api.OK}, {api.PAnti, list(-1, -1), scalar(api.Max), list(0, 0), api.OK}, {api.PAnti, list(-1), scalar(api.Min + 1), list(0), api.OK}, {api.PAnti, list(1), scalar(api.Min), list(0), api.OK},
	})
	first := repeats(4096, 1)
	first.Atoms[0] = -1
	checkDyad(t, api.PAnti, first, scalar(api.Min), none, api.ErrOver)
}

// append1 is a list with one more number.
func append1(a api.Array, n int64) api.Array { return list(append(slices.Clone(a.Atoms), n)...) }

// TestDyadShapes: all pairs of shapes.
func TestDyadShapes(t *testing.T) {
	var d dice
	for _, sx := range fewShapes() {
		for _, sy := range goodShapes() {
			for _, xy := range [][2]api.Array{{rises(sx...), numbered(sy...)}, {zeros(sx...), zeros(sy...)}, {d.array(sx), d.array(sy)}} {
				for _, op := range dyadOps() {
					want, e := wantedDyad(op, xy[0], xy[1])
					checkDyad(t, op, xy[0], xy[1], want, e)
				}
			}
		}
		if t.Failed() {
			return
		}
	}
}

// TestDyadThrown: pairs of arrays that are thrown; in most of them x has a rank and lengths that fit.
func TestDyadThrown(t *testing.T) {
	var d dice
	answered := [api.Prims + 1]int{}
	for range 12000 {
		sy := d.shape(6)
		if d.throw(2) == 0 {
			sy = sy[:min(1, len(sy))]
		}
		sx := d.shape(2)
		switch d.throw(4) {
		case 0:
			sx = nil
		case 1:
			sx = slices.Clone(sy[:min(1, len(sy))])
		case 2:
			sx, sy = lengths(d.throw(7)), nil
		}
		x, y := d.array(sx), d.array(sy)
		for _, op := range dyadOps() {
			want, e := wantedDyad(op, x, y)
			if checkDyad(t, op, x, y, want, e); e == api.OK {
				answered[op]++
			}
		}
	}
	for _, op := range dyadOps() {
		if answered[op] < 2000 {
			t.Errorf("the test itself: %d was OK %d times", op, answered[op])
		}
	}
}

// TestBasesThrown: numbers and bases of every width.
func TestBasesThrown(t *testing.T) {
	var d dice
	for range 8000 {
		x, y := zeros(d.throw(6)), scalar(d.number())
		digits := zeros(x.Shape...)
		for i := range x.Atoms {
			x.Atoms[i], digits.Atoms[i] = d.number(), d.number()
		}
		want, e := wantedDyad(api.PAnti, x, y)
		checkDyad(t, api.PAnti, x, y, want, e)
		want, e = wantedDyad(api.PBase, x, digits)
		checkDyad(t, api.PBase, x, digits, want, e)
	}
}

// TestThereAndBack: what follows: the digits of a number in bases above 0 make that number again, if it is below their product; so do its binary digits.
func TestThereAndBack(t *testing.T) {
	var d dice
	for range 2000 {
		x, product := zeros(1+d.throw(6)), 1
		for i := range x.Atoms {
			x.Atoms[i] = int64(1 + d.throw(1000))
			product *= int(x.Atoms[i])
		}
		y := scalar(int64(d.throw(1<<30) * d.throw(1<<30) % product))
		digits, _ := Dyad(api.PAnti, x, y)
		checkDyad(t, api.PBase, x, digits, y, api.OK)
		binary, _ := Monad(api.PAnti, y)
		checkMonad(t, api.PBase, binary, y, api.OK)
	}
}

// TestCopiesOnce: what follows: copying with 1 changes nothing, but that a scalar becomes a list.
func TestCopiesOnce(t *testing.T) {
	for _, s := range goodShapes() {
		y := numbered(s...)
		if len(s) == 0 {
			checkDyad(t, api.PTally, scalar(1), y, list(y.Atoms...), api.OK)
			continue
		}
		checkDyad(t, api.PTally, scalar(1), y, y, api.OK)
		checkDyad(t, api.PTally, repeats(s[0], 1), y, y, api.OK)
	}
}

// TestAnswersMayBe: whatever is answered may be handed in again.
func TestAnswersMayBe(t *testing.T) {
	good := func(a api.Array) bool {
		product := 1
		for _, length := range a.Shape {
			product *= max(1, length)
		}
		return len(a.Shape) <= 8 && product <= 4096 && len(a.Atoms) == sizeOf(a.Shape)
	}
	for _, s := range goodShapes() {
		y := rises(s...)
		for _, op := range monadOps() {
			if a, e := Monad(op, y); e == api.OK && !good(a) {
				t.Errorf("P8.2: Monad(%d, %s): %s", op, brief(y), brief(a))
			}
		}
		for _, x := range []api.Array{scalar(0), scalar(1), scalar(2), scalar(64), scalar(4096), list(), list(1), list(2, 3), repeats(64, 1), repeats(64, 64), zeros(4096)} {
			for _, op := range dyadOps() {
				if a, e := Dyad(op, x, y); e == api.OK && !good(a) {
					t.Errorf("P8.3: Dyad(%d, %s, %s): %s", op, brief(x), brief(y), brief(a))
				}
			}
		}
	}
}
