package trait

import "testing"

// TestRanksOfExamples: the chapter's own.
func TestRanksOfExamples(t *testing.T) {
	for s, want := range map[string][3]int{
		"+": {0, 0, 0}, "{": {0, 0, 64}, "#": {64, 1, 64}, "$": {64, 1, 64},
		`+"1`: {1, 1, 1}, `+"0 _`: {64, 0, 64}, `+"1 2 _1`: {1, 2, -1}, `(+"0 1)~`: {64, 1, 0},
		"$@+": {0, 0, 0}, "+&$": {64, 64, 64}, "+&.#.": {1, 1, 1}, "2&+": {0, 64, 64}, "+&2": {0, 64, 64}, "# : +": {64, 0, 0}, "Mean": {64, 64, 64}, "+/": {64, 64, 64},
	} {
		checkRanks(t, read(t, s), want)
	}
}

// TestTotalOfExamples: the chapter's own.
func TestTotalOfExamples(t *testing.T) {
	checkTotal(t, read(t, "+"), 1, true)
	checkTotal(t, read(t, "+"), 2, false)
	checkTotal(t, read(t, "(# , $)"), 1, false)
	checkTotal(t, read(t, "([ -: ])"), 2, true)
	checkTotal(t, read(t, `a"_`), 1, false)
	checkTotal(t, read(t, "% :: ]"), 2, true)
	checkTotal(t, noun("y"), 1, false)
	checkTotal(t, read(t, "]"), 3, false)
	checkTotal(t, read(t, "]^:0"), 2, true)
	checkTotal(t, read(t, "%^:0"), 2, true)
	checkTotal(t, read(t, "]^:_1"), 1, false)
}
