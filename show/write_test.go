package show

import (
	"strings"
	"testing"

	"abacus/api"
)

// shown is an array with its text, `;` for a newline in it, and its line.
type shown struct {
	a          api.Array
	text, flat string
}

func checkShown(t *testing.T, cases []shown) {
	t.Helper()
	for _, c := range cases {
		checkText(t, c.a, strings.ReplaceAll(c.text, ";", "\n"), api.OK)
		checkFlat(t, c.a, c.flat, api.OK)
	}
}

func TestWriteExamples(t *testing.T) {
	checkShown(t, []shown{
		{scalar(-5), "_5", "_5"}, {list(1, -2, 30), "1 _2 30", "1 _2 30"}, {list(), "", "0 $"}, {list(7), "7", "1 $ 7"},
		{array(lengths(2, 2), 1, -10, 100, 2), "  1 _10;100   2", "2 2 $ 1 _10 100 2"},
		{array(lengths(2, 1, 2), 1, 2, 3, 4), "1 2;;3 4", "2 1 2 $ 1 2 3 4"}, {array(lengths(2, 1, 1, 1), 1, 2), "1;;;2", "2 1 1 1 $ 1 2"}, {array(lengths(0, 3)), "", "0 3 $"},
		{scalar(7), "7", "7"}, {list(1, -2), "1 _2", "1 _2"}, {array(lengths(2, 2), 1, 2, 3, 4), "1 2;3 4", "2 2 $ 1 2 3 4"},
	})
}

// TestScalarsAndLists: numbers of every width and sign, no blanks but those between; a list's columns are no wider than their one number.
func TestScalarsAndLists(t *testing.T) {
	checkShown(t, []shown{
		{scalar(0), "0", "0"}, {scalar(1), "1", "1"}, {scalar(-1), "_1", "_1"}, {scalar(10), "10", "10"}, {scalar(-10), "_10", "_10"}, {scalar(12), "12", "12"},
		{scalar(api.Max), "9223372036854775807", "9223372036854775807"}, {scalar(api.Min), "_9223372036854775808", "_9223372036854775808"}, {scalar(api.Min + 1), "_9223372036854775807", "_9223372036854775807"},
		{list(0), "0", "1 $ 0"}, {list(-7), "_7", "1 $ _7"}, {list(api.Min), "_9223372036854775808", "1 $ _9223372036854775808"},
		{list(0, 0), "0 0", "0 0"}, {list(api.Min, 0, api.Max), "_9223372036854775808 0 9223372036854775807", "_9223372036854775808 0 9223372036854775807"}, {list(1, 100, -1000, 5), "1 100 _1000 5", "1 100 _1000 5"},
		{repeats(4096, -3), strings.TrimSuffix(strings.Repeat("_3 ", 4096), " "), strings.TrimSuffix(strings.Repeat("_3 ", 4096), " ")},
	})
}

// TestTables: one line and several, one column and several, each column as wide as its own widest number.
func TestTables(t *testing.T) {
	checkShown(t, []shown{
		{array(lengths(1, 1), -5), "_5", "1 1 $ _5"}, {array(lengths(1, 3), 1, -2, 30), "1 _2 30", "1 3 $ 1 _2 30"}, {array(lengths(3, 1), 1, -2, 30), " 1;_2;30", "3 1 $ 1 _2 30"},
		{array(lengths(2, 3), 1, 22, 333, 333, 22, 1), "  1 22 333;333 22   1", "2 3 $ 1 22 333 333 22 1"}, {array(lengths(3, 2), 0, 0, -1, 1000, 5, -99), " 0    0;_1 1000; 5  _99", "3 2 $ 0 0 _1 1000 5 _99"},
		{array(lengths(2, 2), api.Min, 1, 2, api.Max), "_9223372036854775808                   1;                   2 9223372036854775807", "2 2 $ _9223372036854775808 1 2 9223372036854775807"},
		{array(lengths(2, 2), 1, 2, api.Max, api.Min), "                  1                    2;9223372036854775807 _9223372036854775808", "2 2 $ 1 2 9223372036854775807 _9223372036854775808"},
		{array(lengths(2, 2), 9, -9, 10, -10), " 9  _9;10 _10", "2 2 $ 9 _9 10 _10"}, {array(lengths(2, 2), -9, 99, 9, -99), "_9  99; 9 _99", "2 2 $ _9 99 9 _99"},
	})
}

// TestHigherRanks: the widths are those of the whole array; one newline for each axis that begins anew.
func TestHigherRanks(t *testing.T) {
	checkShown(t, []shown{
		{array(lengths(2, 2, 1), 1, 20, 3, 4), " 1;20;; 3; 4", "2 2 1 $ 1 20 3 4"}, {array(lengths(2, 2, 2), 1, 2, 3, 4, 5, 6, 7, -800), "1    2;3    4;;5    6;7 _800", "2 2 2 $ 1 2 3 4 5 6 7 _800"}, {array(lengths(2, 2, 2), -100, 2, 3, 4, 5, 6, 7, 8), "_100 2;   3 4;;   5 6;   7 8", "2 2 2 $ _100 2 3 4 5 6 7 8"},
		{array(lengths(1, 1, 3), 1, 2, 3), "1 2 3", "1 1 3 $ 1 2 3"}, {array(lengths(1, 3, 1), 1, 2, 3), "1;2;3", "1 3 1 $ 1 2 3"}, {array(lengths(3, 1, 1), 1, 2, 3), "1;;2;;3", "3 1 1 $ 1 2 3"},
		{array(lengths(2, 2, 1, 1), 1, 2, 3, 4), "1;;2;;;3;;4", "2 2 1 1 $ 1 2 3 4"}, {array(lengths(2, 1, 2, 1), 1, 2, 3, 4), "1;2;;;3;4", "2 1 2 1 $ 1 2 3 4"}, {array(lengths(1, 2, 1, 2), 1, 2, 3, 4), "1 2;;3 4", "1 2 1 2 $ 1 2 3 4"}, {array(lengths(1, 1, 2, 2), 1, 2, 3, 4), "1 2;3 4", "1 1 2 2 $ 1 2 3 4"},
		{array(lengths(2, 2, 2, 1), 1, 2, 3, 4, 5, 6, 7, 8), "1;2;;3;4;;;5;6;;7;8", "2 2 2 1 $ 1 2 3 4 5 6 7 8"},
		{array(append(lengths(2), times(7, 1)...), 1, 2), "1;;;;;;;2", "2 1 1 1 1 1 1 1 $ 1 2"}, {array(append(times(6, 1), 2, 1), 1, 2), "1;2", "1 1 1 1 1 1 2 1 $ 1 2"}, {array(append(times(7, 1), 2), 1, 2), "1 2", "1 1 1 1 1 1 1 2 $ 1 2"}, {array(times(8, 1), -4), "_4", "1 1 1 1 1 1 1 1 $ _4"}, {array(lengths(1, 1, 1, 2, 1, 1, 1, 1), 10, 2), "10;;;; 2", "1 1 1 2 1 1 1 1 $ 10 2"},
	})
}

// TestWithoutAtoms: of every rank, wherever the length of 0 stands.
func TestWithoutAtoms(t *testing.T) {
	checkShown(t, []shown{
		{array(lengths(0)), "", "0 $"}, {array(lengths(3, 0)), "", "3 0 $"}, {array(lengths(0, 0)), "", "0 0 $"}, {array(lengths(0, 4096)), "", "0 4096 $"}, {array(lengths(4096, 0)), "", "4096 0 $"}, {array(lengths(2, 0, 2)), "", "2 0 2 $"}, {array(lengths(64, 64, 0)), "", "64 64 0 $"}, {array(lengths(0, 1, 1, 1)), "", "0 1 1 1 $"}, {array(times(8, 0)), "", "0 0 0 0 0 0 0 0 $"}, {array(append(times(7, 2), 0)), "", "2 2 2 2 2 2 2 0 $"}, {array(append(lengths(0), times(7, 1)...)), "", "0 1 1 1 1 1 1 1 $"},
	})
}

// TestWriteShapes: every shape, with numbers of several widths, equal ones and the farthest ones.
func TestWriteShapes(t *testing.T) {
	var d dice
	for _, s := range goodShapes() {
		for _, a := range []api.Array{zeros(s...), numbered(s...), d.array(s), d.array(s)} {
			checkText(t, a, wantedText(a), api.OK)
			checkFlat(t, a, wantedFlat(a), api.OK)
			for i := range a.Atoms {
				a.Atoms[i] = []int64{api.Min, 0, api.Max, -1, 7}[d.throw(5)]
			}
			checkText(t, a, wantedText(a), api.OK)
			checkFlat(t, a, wantedFlat(a), api.OK)
		}
		if t.Failed() {
			return
		}
	}
}

// TestWriteThrown: arrays that are thrown; those of rank 3 and above with several lines are many.
func TestWriteThrown(t *testing.T) {
	var d dice
	high := 0
	for range 5000 {
		a := d.array(d.shape())
		checkText(t, a, wantedText(a), api.OK)
		checkFlat(t, a, wantedFlat(a), api.OK)
		if rank := len(a.Shape); rank > 2 && len(a.Atoms) > a.Shape[rank-1] {
			high++
		}
	}
	if high < 1000 {
		t.Errorf("the test itself: %d arrays of rank 3 and above with several lines", high)
	}
}

// TestColumns: one wide number, wherever it stands, widens its own column throughout and no other.
func TestColumns(t *testing.T) {
	for place := range 24 {
		for _, wide := range []int64{10, -1, 12345, api.Max, api.Min} {
			for _, s := range [][]int{lengths(24), lengths(4, 6), lengths(24, 1), lengths(2, 3, 4), lengths(2, 2, 2, 3), lengths(3, 1, 4, 2)} {
				a := zeros(s...)
				a.Atoms[place] = wide
				checkText(t, a, wantedText(a), api.OK)
			}
		}
	}
}

// TestWriteRefused: arrays that may not be, whichever way.
func TestWriteRefused(t *testing.T) {
	checkText(t, api.Array{}, "", api.ErrArg)
	checkText(t, array(lengths(2), 1), "", api.ErrArg)
	for _, a := range wrongArrays() {
		checkText(t, a, "", api.ErrArg)
		checkFlat(t, a, "", api.ErrArg)
	}
}
