package word

import (
	"strings"
	"testing"
)

// TestShortLines: all short lines against the chapter's table.
func TestShortLines(t *testing.T) {
	var all strings.Builder
	for b := range 256 {
		all.WriteByte(byte(b))
	}
	for n := range 3 {
		texts(all.String(), n, func(s string) { checkCut(t, s) })
	}
	good := 0
	for alphabet, n := range map[string]int{" 019_aB.": 5, " NBi.:0": 5, "{}()m.: ": 5, " .:=&+x": 5, "/\\~.:^@": 4, ")a5. (N;": 4} {
		texts(alphabet, n, func(s string) {
			if checkCut(t, s) {
				good++
			}
		})
	}
	if good < 10000 {
		t.Errorf("the test itself: %d lines are cut", good)
	}
}

// TestPrintableThree: all lines of three bytes that begin and end with one of 33 to 126, with each byte of few between.
func TestPrintableThree(t *testing.T) {
	for a := byte(33); a <= 126; a++ {
		for b := byte(33); b <= 126; b++ {
			for _, between := range []string{" ", ".", ":", "a", "0", "_", "{", ")"} {
				checkCut(t, string([]byte{a, between[0], b}))
			}
		}
	}
}

// TestThrownLines: lines of many words, good ones and bad ones, with blanks between and without.
func TestThrownLines(t *testing.T) {
	var d dice
	words, wrong, good := goodWords(), badWords(), 0
	for range 20000 {
		if checkCut(t, d.line(words, wrong)) {
			good++
		}
	}
	if good < 2000 || good > 18000 {
		t.Errorf("the test itself: %d lines are cut", good)
	}
}
