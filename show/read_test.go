package show

import (
	"slices"
	"strings"
	"testing"

	"abacus/api"
)

// refusal is a text that is no array's, with the place and the error.
type refusal struct {
	s     string
	place int
	e     api.Errno
}

func checkRefused(t *testing.T, cases []refusal) {
	t.Helper()
	for _, c := range cases {
		checkRead(t, c.s, api.Array{}, c.place, c.e)
	}
}

// ones is a text of n numbers.
func ones(n int) string { return strings.TrimSuffix(strings.Repeat("1 ", n), " ") }

func TestReadExamples(t *testing.T) {
	checkRead(t, "7", scalar(7), 0, api.OK)
	checkRead(t, "1 $ 7", list(7), 0, api.OK)
	checkRead(t, "0 3 $", array(lengths(0, 3)), 0, api.OK)
	checkRead(t, "_9223372036854775808", scalar(api.Min), 0, api.OK)
	checkRefused(t, []refusal{
		{"", 0, api.ErrText}, {"1  2", 2, api.ErrText}, {"1 2 ", 4, api.ErrText}, {"01", 1, api.ErrText}, {"_0", 1, api.ErrText}, {"_", 1, api.ErrText}, {"+1", 0, api.ErrText}, {"1x", 1, api.ErrText},
		{"9223372036854775808", 0, api.ErrNumber}, {"1 _9223372036854775809 x", 2, api.ErrNumber},
		{"$ 1", 0, api.ErrText}, {"2 $ 1 2", 2, api.ErrText}, {"2 2 $ 1 2 3", 11, api.ErrLength}, {"_1 $", 0, api.ErrSize}, {"5000 $", 0, api.ErrSize}, {"1 $ 1 $", 6, api.ErrText}, {"1 $1", 3, api.ErrText},
	})
}

// TestReadGood: scalars, lists, tables and arrays without atoms, numbers at both ends of 64 bits.
func TestReadGood(t *testing.T) {
	for _, c := range []struct {
		s    string
		want api.Array
	}{
		{"0", scalar(0)}, {"_1", scalar(-1)}, {"10", scalar(10)}, {"100", scalar(100)}, {"_10", scalar(-10)}, {"9223372036854775807", scalar(api.Max)}, {"1 $ _9223372036854775808", list(api.Min)},
		{"0 0", list(0, 0)}, {"1 _2 30", list(1, -2, 30)}, {"9223372036854775807 _9223372036854775808", list(api.Max, api.Min)}, {"0 $", list()}, {"1 $ 0", list(0)},
		{"2 2 $ 1 2 3 4", array(lengths(2, 2), 1, 2, 3, 4)}, {"1 1 $ _5", array(lengths(1, 1), -5)}, {"1 2 $ 0 _7", array(lengths(1, 2), 0, -7)}, {"2 1 1 1 $ 1 2", array(lengths(2, 1, 1, 1), 1, 2)}, {"1 1 1 1 1 1 1 1 $ 9", array(times(8, 1), 9)},
		{"0 0 $", array(lengths(0, 0))}, {"3 0 $", array(lengths(3, 0))}, {"0 4096 $", array(lengths(0, 4096))}, {"4096 0 $", array(lengths(4096, 0))}, {"0 0 0 0 0 0 0 0 $", array(times(8, 0))}, {"64 0 64 $", array(lengths(64, 0, 64))},
		{ones(4096), repeats(4096, 1)}, {"64 64 $ " + ones(4096), array(lengths(64, 64), repeats(4096, 1).Atoms...)}, {"1 4096 $ " + ones(4096), array(lengths(1, 4096), repeats(4096, 1).Atoms...)},
	} {
		checkRead(t, c.s, c.want, 0, api.OK)
	}
}

// TestBlanks: ahead, behind, doubled, and other white space.
func TestBlanks(t *testing.T) {
	checkRefused(t, []refusal{
		{" ", 0, api.ErrText}, {"  ", 0, api.ErrText}, {" 1", 0, api.ErrText}, {" 1 2", 0, api.ErrText}, {" $", 0, api.ErrText}, {"1 ", 2, api.ErrText}, {"12 _3 ", 6, api.ErrText}, {"1  ", 2, api.ErrText}, {"1   2", 2, api.ErrText}, {"12  3  4", 3, api.ErrText},
		{"0 $ ", 4, api.ErrText}, {"1 $ ", 4, api.ErrText}, {"1 $  5", 4, api.ErrText}, {"1  $ 5", 2, api.ErrText}, {"1 $ 5 ", 6, api.ErrText}, {" 1 $ 5", 0, api.ErrText}, {"1 $ 5  ", 6, api.ErrText},
		{"1\t2", 1, api.ErrText}, {"1 \t2", 2, api.ErrText}, {"1\n2", 1, api.ErrText}, {"1\n", 1, api.ErrText}, {"1\r", 1, api.ErrText}, {"\n", 0, api.ErrText}, {"1 $\n", 3, api.ErrText}, {"1\u00a02", 1, api.ErrText}, {"1\u30002", 1, api.ErrText}, {"2 2 $ 1 2\n3 4", 9, api.ErrText},
	})
}

// TestNumbersWrittenOtherwise: 0 ahead of digits, _ with something else behind it, other signs and letters.
func TestNumbersWrittenOtherwise(t *testing.T) {
	checkRefused(t, []refusal{
		{"00", 1, api.ErrText}, {"007", 1, api.ErrText}, {"1 01", 3, api.ErrText}, {"1 00 2", 3, api.ErrText}, {"0x", 1, api.ErrText}, {"0_1", 1, api.ErrText}, {"0$", 1, api.ErrText}, {"0 0 00", 5, api.ErrText}, {"01 $ 5", 1, api.ErrText}, {"1 $ 05", 5, api.ErrText},
		{"_ ", 1, api.ErrText}, {"_ 1", 1, api.ErrText}, {"__", 1, api.ErrText}, {"__1", 1, api.ErrText}, {"_$", 1, api.ErrText}, {"_x", 1, api.ErrText}, {"_01", 1, api.ErrText}, {"1 _", 3, api.ErrText}, {"1 _0", 3, api.ErrText}, {"1 _ 2", 3, api.ErrText}, {"_1_", 2, api.ErrText}, {"1_2", 1, api.ErrText}, {"1_", 1, api.ErrText}, {"1 $ _", 5, api.ErrText}, {"1 $ _0", 5, api.ErrText},
		{"-1", 0, api.ErrText}, {"1 -2", 2, api.ErrText}, {"_-1", 1, api.ErrText}, {"_+1", 1, api.ErrText}, {"1.5", 1, api.ErrText}, {"1e5", 1, api.ErrText}, {"0x10", 1, api.ErrText}, {"0b1", 1, api.ErrText}, {"1,2", 1, api.ErrText}, {"1+", 1, api.ErrText}, {"12-", 2, api.ErrText}, {"x", 0, api.ErrText}, {"1 x", 2, api.ErrText}, {"Inf", 0, api.ErrText}, {"i. 5", 0, api.ErrText}, {"/", 0, api.ErrText}, {":", 0, api.ErrText}, {"1/", 1, api.ErrText}, {"1:", 1, api.ErrText}, {"_/", 1, api.ErrText}, {"_:", 1, api.ErrText},
	})
}

// TestEveryByte: each of the 256 where a text, a word, a number, a sign or $ may be followed.
func TestEveryByte(t *testing.T) {
	for _, ahead := range []string{"", "0", "1", "10", "_", "_1", "1 ", "1 0", "1 _", "1 $", "1 $ ", "1 $ 1", "$", "$ ", "9223372036854775807", "9223372036854775808", "_9223372036854775808", "_9223372036854775809", "922337203685477580", "_922337203685477580"} {
		for b := range 256 {
			for _, behind := range []string{"", "1", " ", " 1", "0", "$", " $", "\x00"} {
				s := ahead + string([]byte{byte(b)}) + behind
				want, place, e := wantedRead(s)
				checkRead(t, s, want, place, e)
			}
		}
	}
}

// TestNoText: bytes that are no text, the digits of other scripts, a byte 0 in the middle and at the end.
func TestNoText(t *testing.T) {
	checkRefused(t, []refusal{
		{"\x00", 0, api.ErrText}, {"1\x00", 1, api.ErrText}, {"1 \x00", 2, api.ErrText}, {"1 $\x00", 3, api.ErrText}, {"_\x00", 1, api.ErrText}, {"1\x002", 1, api.ErrText}, {"\xff", 0, api.ErrText}, {"1\xff", 1, api.ErrText}, {"1 \x80 2", 2, api.ErrText}, {"1 $ \xc3\x28", 4, api.ErrText}, {"é", 0, api.ErrText}, {"1é", 1, api.ErrText}, {"１", 0, api.ErrText}, {"1 ２", 2, api.ErrText}, {"٣", 0, api.ErrText}, {"1٣", 1, api.ErrText}, {"−1", 0, api.ErrText}, {"\ufeff1", 0, api.ErrText}, {"\xb0", 0, api.ErrText}, {"1\xb1", 1, api.ErrText}, {"1\xa02", 1, api.ErrText},
	})
}

// TestNumbersTooFar: at and beyond the ends of 64 bits, told where the number ends: ahead of what is wrong behind it, behind what is wrong ahead of it.
func TestNumbersTooFar(t *testing.T) {
	checkRefused(t, []refusal{
		{"_9223372036854775809", 0, api.ErrNumber}, {"9223372036854775810", 0, api.ErrNumber}, {"18446744073709551615", 0, api.ErrNumber}, {"18446744073709551616", 0, api.ErrNumber}, {"18446744073709551617", 0, api.ErrNumber}, {"_18446744073709551616", 0, api.ErrNumber}, {"_18446744073709551617", 0, api.ErrNumber}, {"99999999999999999999999999999999999999999999", 0, api.ErrNumber}, {"10000000000000000000", 0, api.ErrNumber}, {"340282366920938463463374607431768211456", 0, api.ErrNumber},
		{"1 9223372036854775808", 2, api.ErrNumber}, {"9223372036854775808 1", 0, api.ErrNumber}, {"9223372036854775807 9223372036854775808", 20, api.ErrNumber}, {"9223372036854775808 _9223372036854775809", 0, api.ErrNumber},
		{"9223372036854775808x", 0, api.ErrNumber}, {"9223372036854775808_", 0, api.ErrNumber}, {"9223372036854775808$", 0, api.ErrNumber}, {"9223372036854775808 ", 0, api.ErrNumber}, {"9223372036854775808  1", 0, api.ErrNumber}, {"1 9223372036854775808\x00", 2, api.ErrNumber}, {"_9223372036854775809 x", 0, api.ErrNumber}, {"_9223372036854775809\n", 0, api.ErrNumber},
		{"1 x 9223372036854775808", 2, api.ErrText}, {"01 9223372036854775808", 1, api.ErrText}, {" 9223372036854775808", 0, api.ErrText}, {"1  9223372036854775808", 2, api.ErrText}, {"_ 9223372036854775808", 1, api.ErrText}, {"_09223372036854775808", 1, api.ErrText}, {"09223372036854775808", 1, api.ErrText}, {"1x 9223372036854775808", 1, api.ErrText},
		// Ahead of and behind $, too; all that is said of the whole comes later.
		{"9223372036854775808 $", 0, api.ErrNumber}, {"2 9223372036854775808 $ 1", 2, api.ErrNumber}, {"1 $ 9223372036854775808", 4, api.ErrNumber}, {"$ 9223372036854775808", 2, api.ErrNumber}, {"5000 $ 9223372036854775808", 7, api.ErrNumber}, {"_1 $ 9223372036854775808", 5, api.ErrNumber}, {"2 $ 1 2 9223372036854775808", 8, api.ErrNumber}, {"1 $ 9223372036854775808 $", 4, api.ErrNumber}, {"1 $ 1 $ 9223372036854775808", 6, api.ErrText}, {ones(5000) + " 9223372036854775808", 10000, api.ErrNumber},
		{"9223372036854775807 $", 0, api.ErrSize}, {"_9223372036854775808 $", 0, api.ErrSize},
	})
	long := strings.Repeat("9", 5000)
	checkRefused(t, []refusal{{long, 0, api.ErrNumber}, {"1 _" + long, 2, api.ErrNumber}, {"1 " + long + "x", 2, api.ErrNumber}, {"0" + long, 1, api.ErrText}})
}

// TestDollar: with nothing ahead, twice, with a byte behind it; that is so far as the words go, ahead of what is said of the whole.
func TestDollar(t *testing.T) {
	checkRefused(t, []refusal{
		{"$", 0, api.ErrText}, {"$ 1 2", 0, api.ErrText}, {"$ _1", 0, api.ErrText}, {"$ ", 2, api.ErrText}, {"$1", 1, api.ErrText}, {"$ x", 2, api.ErrText}, {"$$", 1, api.ErrText}, {"$ $", 2, api.ErrText}, {"$ 1 $", 4, api.ErrText}, {"$ " + ones(5000), 0, api.ErrText},
		{"1 $$", 3, api.ErrText}, {"1 $ $", 4, api.ErrText}, {"1 $ 1 $ 1", 6, api.ErrText}, {"1 $ 1 2 $", 8, api.ErrText}, {"0 $ $", 4, api.ErrText}, {"5000 $ $", 7, api.ErrText}, {"_1 $ 1 $", 7, api.ErrText}, {"2 $ 1 2 $", 8, api.ErrText},
		{"1 $_1", 3, api.ErrText}, {"1 $x", 3, api.ErrText}, {"1 $0", 3, api.ErrText}, {"0 $1", 3, api.ErrText}, {"1$", 1, api.ErrText}, {"1$ 5", 1, api.ErrText}, {"1 5$", 3, api.ErrText}, {"0$", 1, api.ErrText}, {"_$ 1", 1, api.ErrText}, {"_1$", 2, api.ErrText}, {"1 $ 5$", 5, api.ErrText}, {"1 $ 5x", 5, api.ErrText}, {"1 $ x", 4, api.ErrText}, {"5000 $ x", 7, api.ErrText}, {"2 2 $ 1 2 3x", 11, api.ErrText},
	})
}

// TestNoShape: lengths that are no shape, ahead of how many atoms there are.
func TestNoShape(t *testing.T) {
	checkRefused(t, []refusal{
		{"_1 $ 5", 0, api.ErrSize}, {"_1 $ 5 6", 0, api.ErrSize}, {"1 _1 $", 0, api.ErrSize}, {"0 _1 $", 0, api.ErrSize}, {"_2 _3 $ 1 2 3 4 5 6", 0, api.ErrSize}, {"4097 $", 0, api.ErrSize}, {"4097 $ " + ones(4097), 0, api.ErrSize}, {"64 65 $", 0, api.ErrSize}, {"0 4097 $", 0, api.ErrSize}, {"4097 0 $", 0, api.ErrSize}, {"64 0 65 $", 0, api.ErrSize}, {"0 5000 $", 0, api.ErrSize},
		{"1 1 1 1 1 1 1 1 1 $ 5", 0, api.ErrSize}, {"0 0 0 0 0 0 0 0 0 $", 0, api.ErrSize}, {ones(4096) + " $ 1", 0, api.ErrSize}, {ones(5000) + " $ 1", 0, api.ErrSize}, {ones(8) + " _1 $", 0, api.ErrSize},
		// Their products are 0 or 1, were they reckoned by 64 bits alone; or they are good ones by 32.
		{"4611686018427387904 4 $", 0, api.ErrSize}, {"4294967296 4294967296 $", 0, api.ErrSize}, {"7 7905747460161236407 $ 1", 0, api.ErrSize}, {"4294967297 $ 5", 0, api.ErrSize}, {"4294967296 $", 0, api.ErrSize}, {"_4294967295 $ 5", 0, api.ErrSize},
	})
}

// TestAtomsAndPlaces: too few and too many atoms, ahead of a list that needs no shape; that one is refused where $ stands.
func TestAtomsAndPlaces(t *testing.T) {
	checkRefused(t, []refusal{
		{"1 $", 3, api.ErrLength}, {"0 $ 1", 5, api.ErrLength}, {"1 $ 1 2", 7, api.ErrLength}, {"2 $", 3, api.ErrLength}, {"2 $ 1", 5, api.ErrLength}, {"2 $ 1 2 3", 9, api.ErrLength}, {"4096 $", 6, api.ErrLength}, {"4096 $ 1", 8, api.ErrLength}, {"2 2 $ 1 2 3 4 5", 15, api.ErrLength}, {"2 2 $", 5, api.ErrLength}, {"0 3 $ 0", 7, api.ErrLength}, {"3 0 $ 1 2 3", 11, api.ErrLength}, {"0 4096 $ 1", 10, api.ErrLength}, {"1 1 $ 1 2", 9, api.ErrLength}, {"1 1 1 1 1 1 1 1 $", 17, api.ErrLength}, {"4 $ _10 20 300", 14, api.ErrLength}, {"1 $ " + ones(5000), 4 + 9999, api.ErrLength},
		{"2 $ 0 0", 2, api.ErrText}, {"3 $ 1 2 3", 2, api.ErrText}, {"10 $ " + ones(10), 3, api.ErrText}, {"4096 $ " + ones(4096), 5, api.ErrText}, {"4095 $ " + ones(4095), 5, api.ErrText}, {"4096 $ " + ones(4095), 7 + 8189, api.ErrLength}, {"4096 $ " + ones(4097), 7 + 8193, api.ErrLength},
	})
}

// TestLongLists: more than 4096 numbers without a shape.
func TestLongLists(t *testing.T) {
	checkRefused(t, []refusal{{ones(4097), 0, api.ErrSize}, {ones(5000), 0, api.ErrSize}, {ones(100000), 0, api.ErrSize}, {ones(4097) + "x", 8193, api.ErrText}, {ones(4097) + " ", 8194, api.ErrText}, {ones(4097) + " 01", 8195, api.ErrText}})
}

// TestLongTexts: 2^20 bytes are gone through, one more is refused ahead of all else.
func TestLongTexts(t *testing.T) {
	const bytes = 1 << 20
	pairs := strings.Repeat("1 ", bytes/2)
	checkRefused(t, []refusal{
		{pairs, bytes, api.ErrText}, {pairs[:bytes-2] + "12", 0, api.ErrSize}, {pairs[:bytes-1] + "x", bytes - 1, api.ErrText}, {pairs[:bytes-2] + "x ", bytes - 2, api.ErrText}, {"1 $ " + pairs[:bytes-6] + "12", bytes, api.ErrLength}, {pairs[:bytes-2] + " $", bytes - 2, api.ErrText}, {pairs[:bytes-4] + "12 $", 0, api.ErrSize}, {"$" + pairs[1:bytes-2] + "12", 0, api.ErrText},
		{strings.Repeat("1", bytes), 0, api.ErrNumber}, {"_" + strings.Repeat("1", bytes-1), 0, api.ErrNumber}, {"1 " + strings.Repeat("9", bytes-2), 2, api.ErrNumber}, {strings.Repeat(" ", bytes), 0, api.ErrText}, {strings.Repeat("0", bytes), 1, api.ErrText}, {strings.Repeat("\xff", bytes), 0, api.ErrText},
		{strings.Repeat("1", bytes+1), 0, api.ErrLong}, {pairs + " ", 0, api.ErrLong}, {pairs + "1", 0, api.ErrLong}, {strings.Repeat(" ", bytes+1), 0, api.ErrLong}, {"x" + pairs, 0, api.ErrLong}, {"1 " + strings.Repeat("\x00", bytes), 0, api.ErrLong}, {strings.Repeat("1 ", bytes), 0, api.ErrLong},
	})
}

// texts goes over all texts of so many of these bytes.
func texts(bytes string, n int, yield func(string)) {
	text := make([]byte, n)
	var put func(i int)
	put = func(i int) {
		if i == n {
			yield(string(text))
			return
		}
		for _, b := range []byte(bytes) {
			text[i] = b
			put(i + 1)
		}
	}
	put(0)
}

// TestAllShortTexts: every text of few bytes out of those that words are made of, and one that none is made of.
func TestAllShortTexts(t *testing.T) {
	seen := map[api.Errno]int{}
	for n := range 7 {
		texts(" 012_$x", n, func(s string) {
			want, place, e := wantedRead(s)
			seen[e]++
			if !t.Failed() {
				checkRead(t, s, want, place, e)
			}
		})
	}
	for _, e := range []api.Errno{api.OK, api.ErrText, api.ErrSize, api.ErrLength} {
		if seen[e] == 0 {
			t.Errorf("the test itself: no text is %v", e)
		}
	}
}

// TestReadThrown: words that are thrown, and such texts with a byte put in, taken out or changed.
func TestReadThrown(t *testing.T) {
	var d dice
	words := strings.Fields("0 0 1 1 1 2 2 3 _1 _2 10 4096 4097 64 9223372036854775807 _9223372036854775808 9223372036854775808 _9223372036854775809 18446744073709551617 $ $ $ $")
	seen := map[api.Errno]int{}
	for range 20000 {
		some := make([]string, 1+d.throw(7))
		for i := range some {
			some[i] = words[d.throw(len(words))]
		}
		s := []byte(strings.Join(some, " "))
		at, b := d.throw(len(s)), " 019_$x\x00\n"[d.throw(9)]
		switch d.throw(6) {
		case 0:
			s = slices.Insert(s, at, b)
		case 1:
			s = slices.Delete(s, at, at+1)
		case 2:
			s[at] = b
		}
		want, place, e := wantedRead(string(s))
		checkRead(t, string(s), want, place, e)
		seen[e]++
	}
	for _, e := range []api.Errno{api.OK, api.ErrText, api.ErrNumber, api.ErrSize, api.ErrLength} {
		if seen[e] < 300 {
			t.Errorf("the test itself: %d texts are %v", seen[e], e)
		}
	}
}
