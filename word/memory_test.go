package word

import (
	"slices"
	"strings"
	"sync"
	"testing"
	"unsafe"

	"abacus/api"
)

// someLines are lines that are cut, and such as are not.
func someLines() []string {
	return append(strings.Split("|  |x|1 2 3|+|Mean =: +/ % #|1  _2 3&+\"0 _ y|{{)m if. y do. 1 else. 2 end. }}|)names|(x)|5 NB. five|1 2x|007|for.|a . b|{{ y|i.e.I.", "|"), strings.Repeat("+ ", 1000), strings.Repeat("1 + ", 100), strings.Repeat(" ", 1<<20+1))
}

// spoil writes a word all over a list of words, its spare room too.
func spoil(words []api.Word, with api.Word) {
	for i := range words[:cap(words)] {
		words[:cap(words)][i] = with
	}
}

func spoiled(words []api.Word, with api.Word) bool {
	return !slices.ContainsFunc(words[:cap(words)], func(w api.Word) bool { return w != with })
}

// TestMemory: the words of two calls are memory of their own, spare room too, and whoever writes into them changes no later answer.
func TestMemory(t *testing.T) {
	for _, line := range someLines() {
		want, _, _ := wantedCut(line)
		first, _, _ := Cut(line)
		second, _, _ := Cut(line)
		a, b := api.Word{Kind: -1, Text: "first", At: -2}, api.Word{Kind: -3, Text: "second", At: -4}
		spoil(first, a)
		if !slices.Equal(told(second), want) {
			t.Fatalf("P12.3: Cut(%s): two answers share memory", short(line))
		}
		spoil(second, b)
		if !spoiled(first, a) || !spoiled(second, b) {
			t.Fatalf("P12.3: Cut(%s): two answers share memory", short(line))
		}
		_ = append(first[:0], b, b)
		checkCut(t, line)
	}
}

// within tells whether a text lies in another one's memory.
func within(text, line string) bool {
	if text == "" || line == "" {
		return false
	}
	from, at := uintptr(unsafe.Pointer(unsafe.StringData(line))), uintptr(unsafe.Pointer(unsafe.StringData(text)))
	return at >= from && at < from+uintptr(len(line))
}

// TestTextsOfTheirOwn: no word's text is a piece of the line.
func TestTextsOfTheirOwn(t *testing.T) {
	for _, line := range someLines() {
		words, _, _ := Cut(line)
		for _, w := range words {
			if within(w.Text, line) {
				t.Fatalf("P12.3: Cut(%s): the text %s lies in the line", short(line), short(w.Text))
			}
		}
	}
}

// TestArgumentAlone: what was asked before, and where the bytes lie, bear on nothing.
func TestArgumentAlone(t *testing.T) {
	for range 3 {
		for _, line := range someLines() {
			checkCut(t, line)
			checkCut(t, strings.Clone(line))
			checkCut(t, ("+ " + line + "x")[2:2+len(line)])
		}
	}
}

// TestAtATime: from several goroutines at a time lines are cut as they are alone.
func TestAtATime(t *testing.T) {
	var group sync.WaitGroup
	for range 8 {
		group.Go(func() {
			for _, line := range someLines() {
				checkCut(t, line)
			}
		})
	}
	group.Wait()
}
