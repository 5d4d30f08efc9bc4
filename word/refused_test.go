package word

import (
	"strings"
	"testing"

	"abacus/api"
)

// TestWrongNumbers: a number that is none is told by its own first byte, wherever in a list it stands.
func TestWrongNumbers(t *testing.T) {
	for _, n := range append(strings.Fields("00 01 007 0x 0_ _0 _00 _01 _0x _a _A __ __1 _1_ 5x 5X 5_ 5_5 1e5 1x2 9223372036854775808 _9223372036854775809 18446744073709551616 18446744073709551617 _18446744073709551617 99999999999999999999 100000000000000000000000000000000"), strings.Repeat("1", 1<<19), "_"+strings.Repeat("9", 1<<19)) {
		checkRefused(t, n, 0, api.ErrNumber)
		checkRefused(t, "   "+n+" ' ", 3, api.ErrNumber)
		checkRefused(t, "1 2   "+n+" 3", 6, api.ErrNumber)
		checkRefused(t, "1+"+n, 2, api.ErrNumber)
	}
	checkRefused(t, "1 2x", 2, api.ErrNumber)
	checkRefused(t, "1 _9223372036854775809", 2, api.ErrNumber)
	checkRefused(t, "x_y", 1, api.ErrNumber)
	checkRefused(t, "x__", 1, api.ErrNumber)
	checkRefused(t, "5i. 3", 0, api.ErrNumber)
	// A byte that is no letter ends a number: it is no word itself then.
	checkRefused(t, "5\xc3\xa9", 1, api.ErrToken)
	checkRefused(t, "_\x00", 1, api.ErrToken)
	checkRefused(t, "1.5", 1, api.ErrToken)
	checkRefused(t, "_.", 1, api.ErrToken)
}

// TestFirstFromTheLeft: of several errors the first one from the left is told.
func TestFirstFromTheLeft(t *testing.T) {
	long := strings.Repeat("n", 33)
	wrong := []struct {
		text string
		e    api.Errno
	}{{"007", api.ErrNumber}, {"_a", api.ErrNumber}, {"9223372036854775808", api.ErrNumber}, {"for.", api.ErrToken}, {"+::", api.ErrToken}, {"{{", api.ErrToken}, {"'", api.ErrToken}, {long, api.ErrToken}, {"\n", api.ErrToken}}
	for _, a := range wrong {
		for _, b := range wrong {
			checkRefused(t, a.text+" "+b.text, 0, a.e)
			checkRefused(t, " + "+a.text+" x "+b.text, 3, a.e)
			checkRefused(t, "1 2 ; "+a.text+" NB. "+b.text, 6, a.e)
		}
		checkWords(t, "y NB. "+a.text, "2 0 y")
	}
}

// TestOtherBytes: of bytes below 33 but the blank, and above 126, no word begins, and none of them is passed over as a blank.
func TestOtherBytes(t *testing.T) {
	for b := range 256 {
		if b >= 32 && b <= 126 {
			continue
		}
		s := string([]byte{byte(b)})
		checkRefused(t, s, 0, api.ErrToken)
		checkRefused(t, s+" ", 0, api.ErrToken)
		checkRefused(t, "+"+s, 1, api.ErrToken)
		checkRefused(t, "x  "+s+"5", 3, api.ErrToken)
		checkRefused(t, "1 2"+s+" 3", 3, api.ErrToken)
		checkRefused(t, s+".", 0, api.ErrToken)
	}
	checkRefused(t, "+ é", 2, api.ErrToken)
	checkRefused(t, "aé", 1, api.ErrToken)
	checkRefused(t, "x\u00a0y", 1, api.ErrToken)
}

// TestLongLines: a line of 2^20 bytes is cut, one of a byte more is not, whatever it holds.
func TestLongLines(t *testing.T) {
	for piece, want := range map[string]int{" ": 0, "+": 1 << 20, "1 ": 1, "x ": 1 << 19, "1+": 1 << 20, "{{)m": 1 << 18, "i.": 1 << 19, "_ ": 1, "NB. ": 0, "&.: ": 1 << 18} {
		line := strings.Repeat(piece, 1<<20/len(piece))
		words, place, e := Cut(line)
		if len(words) != want || place != 0 || e != api.OK {
			t.Errorf("P12.1: Cut(%s): %d words, %d, %v; wanted %d", short(line), len(words), place, e, want)
		}
		for i, w := range words {
			if w.At != i*(1<<20/want) {
				t.Fatalf("P12.1: Cut(%s): word %d is at %d", short(line), i, w.At)
			}
		}
		checkRefused(t, line+" ", 0, api.ErrLong)
		checkRefused(t, line+"'", 0, api.ErrLong)
		checkRefused(t, line+line, 0, api.ErrLong)
	}
	checkRefused(t, strings.Repeat("'", 1<<20+1), 0, api.ErrLong)
	checkRefused(t, "007"+strings.Repeat(" ", 1<<20-2), 0, api.ErrLong)
	checkRefused(t, strings.Repeat(" ", 1<<20-1)+"'", 1<<20-1, api.ErrToken)
	checkRefused(t, strings.Repeat(" ", 1<<20)+"'", 0, api.ErrLong)
	checkWords(t, strings.Repeat(" ", 1<<20-1)+"+", "4 1048575 +")
}
