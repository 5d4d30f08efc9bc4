package prim

import (
	"slices"
	"strconv"
	"strings"
	"testing"

	"abacus/api"
)

func checkOf(t *testing.T, spelling string, want int, is bool) {
	t.Helper()
	if op, has := Of(spelling); op != want || has != is {
		t.Errorf("P9.1: Of(%q): %d, %v; want %d, %v", spelling, op, has, want, is)
	}
}

// checkOfTable holds Of of any text against the chapter's table, gone through line by line.
func checkOfTable(t *testing.T, text string) {
	t.Helper()
	i := slices.IndexFunc(catalogue(), func(l line) bool { return l.spelling == text })
	if i < 0 {
		checkOf(t, text, 0, false)
		return
	}
	checkOf(t, text, catalogue()[i].op, true)
}

func TestOfExamples(t *testing.T) {
	checkOf(t, "+", api.PAdd, true)
	checkOf(t, "+:", api.PNor, true)
	checkOf(t, "+ ", 0, false)
	checkOf(t, "", 0, false)
}

// TestOf: every row, and the op's number, which api gives.
func TestOf(t *testing.T) {
	if len(catalogue()) != api.Prims {
		t.Fatalf("the test itself: %d lines", len(catalogue()))
	}
	for i, l := range catalogue() {
		if l.op != i+1 {
			t.Errorf("the test itself: line %d is of %d", i, l.op)
		}
		checkOf(t, l.spelling, l.op, true)
	}
}

// TestOfNone: texts that are no spelling.
func TestOfNone(t *testing.T) {
	for _, text := range []string{"", " ", ".", ":", "..", "::", ".:", "\\", "/", "~", "@", "&", "\"", "`", "i", "e", "I", "i:", "E.", "e:", "I:", "_", "0", "x", "Mean", "[:", "PAdd", "+:+", "+::", "<.:", "\\\\:", "|\\", "\x00", "+\x00", "\x00+", "\xff", "\xff\xfe", "+\xff", "\xc0\xab", "＋", "−", "i．", "і.", "ı.", "I․", strings.Repeat("+", 100), strings.Repeat("+:", 50000)} {
		checkOf(t, text, 0, false)
	}
	for _, l := range catalogue() {
		for _, text := range []string{" " + l.spelling, l.spelling + " ", "\t" + l.spelling, l.spelling + "\n", l.spelling + "\x00", l.spelling + ".", l.spelling + "::"} {
			checkOfTable(t, text)
		}
		for _, other := range catalogue() {
			checkOf(t, l.spelling+other.spelling, 0, false)
		}
	}
}

// TestOfBytes: all texts of one and of two bytes; all spellings with a byte ahead and behind.
func TestOfBytes(t *testing.T) {
	known := map[string]int{}
	for _, l := range catalogue() {
		known[l.spelling] = l.op
	}
	check := func(text string) {
		if op, has := Of(text); op != known[text] || has != (known[text] > 0) {
			t.Errorf("P9.1: Of(%q): %d, %v; want %d", text, op, has, known[text])
		}
	}
	for a := range 256 {
		check(string([]byte{byte(a)}))
		for b := range 256 {
			check(string([]byte{byte(a), byte(b)}))
		}
		for _, l := range catalogue() {
			check(l.spelling + string([]byte{byte(a)}))
			check(string([]byte{byte(a)}) + l.spelling)
		}
	}
}

// wantedInfo is a line of the chapter's table as Info tells it.
func wantedInfo(l line) api.Prim {
	out := api.Prim{Spelling: l.spelling, Commutes: l.commutes == "yes"}
	if ranks, _ := ranksAndWork(l.monad); ranks != nil {
		out.Monad, out.Ranks[0] = true, ranks[0]
	}
	if ranks, _ := ranksAndWork(l.dyad); ranks != nil {
		out.Dyad, out.Ranks[1], out.Ranks[2] = true, ranks[0], ranks[1]
	}
	if n, err := strconv.ParseInt(l.identity, 10, 64); err == nil {
		out.Has, out.Identity = true, n
	}
	return out
}

func checkInfo(t *testing.T, op int, want api.Prim, e api.Errno) {
	t.Helper()
	if got, gotE := Info(op); got != want || gotE != e {
		t.Errorf("P9.2: Info(%d): %+v, %v; want %+v, %v", op, got, gotE, want, e)
	}
}

func TestInfoExamples(t *testing.T) {
	checkInfo(t, api.PFrom, api.Prim{Spelling: "{", Dyad: true, Ranks: [3]int{0, 0, 64}}, api.OK)
	checkInfo(t, 0, api.Prim{}, api.ErrArg)
	checkInfo(t, 44, api.Prim{}, api.ErrArg)
}

// TestInfo: every row, all its columns, and some of them written out.
func TestInfo(t *testing.T) {
	for _, l := range catalogue() {
		checkInfo(t, l.op, wantedInfo(l), api.OK)
	}
	checkInfo(t, api.PMin, api.Prim{Spelling: "<.", Monad: true, Dyad: true, Identity: 1<<63 - 1, Has: true, Commutes: true}, api.OK)
	checkInfo(t, api.PMax, api.Prim{Spelling: ">.", Monad: true, Dyad: true, Identity: -1 << 63, Has: true, Commutes: true}, api.OK)
	checkInfo(t, api.PEq, api.Prim{Spelling: "=", Monad: true, Dyad: true, Ranks: [3]int{64, 0, 0}, Identity: 1, Has: true, Commutes: true}, api.OK)
	checkInfo(t, api.PNand, api.Prim{Spelling: "*:", Monad: true, Dyad: true, Commutes: true}, api.OK)
	checkInfo(t, api.PSub, api.Prim{Spelling: "-", Monad: true, Dyad: true, Has: true}, api.OK)
	checkInfo(t, api.PAnti, api.Prim{Spelling: "#:", Monad: true, Dyad: true, Ranks: [3]int{64, 1, 0}}, api.OK)
	checkInfo(t, api.PWhere, api.Prim{Spelling: "I.", Monad: true, Ranks: [3]int{1, 0, 0}}, api.OK)
}

func TestInfoNone(t *testing.T) {
	for _, op := range noOps() {
		checkInfo(t, op, api.Prim{}, api.ErrArg)
	}
	for op := -300; op <= 300; op++ {
		if op < 1 || op > 43 {
			checkInfo(t, op, api.Prim{}, api.ErrArg)
		}
	}
}

// TestOfInfo: what one tells the other tells back.
func TestOfInfo(t *testing.T) {
	for op := 1; op <= api.Prims; op++ {
		p, _ := Info(op)
		checkOf(t, p.Spelling, op, true)
	}
}

// TestInfoIsSoInTheCalls: a valence that Info denies is what the calls refuse, and no other.
func TestInfoIsSoInTheCalls(t *testing.T) {
	for op := 1; op <= api.Prims; op++ {
		p, _ := Info(op)
		if _, e := Monad(op, scalar(0)); p.Monad != (e != api.ErrValence) {
			t.Errorf("P9.2: Info(%d) tells %v of the monad, and Monad answers %v", op, p.Monad, e)
		}
		if _, e := Dyad(op, scalar(0), scalar(0)); p.Dyad != (e != api.ErrValence) {
			t.Errorf("P9.2: Info(%d) tells %v of the dyad, and Dyad answers %v", op, p.Dyad, e)
		}
	}
}
