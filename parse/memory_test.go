package parse

import (
	"fmt"
	"slices"
	"strings"
	"sync"
	"testing"
	"unsafe"

	"abacus/api"
)

// room is a stretch of memory.
type room struct{ from, to uintptr }

func roomOf[T any](list []T) room {
	from := uintptr(unsafe.Pointer(unsafe.SliceData(list)))
	return room{from, from + uintptr(cap(list))*unsafe.Sizeof(*new(T))}
}

// rooms are all lists of a term, with their spare room, in which terms may lie too.
func rooms(t api.Term) []room {
	out := []room{roomOf(t.Num.Shape), roomOf(t.Num.Atoms), roomOf(t.Kids)}
	for _, kid := range t.Kids[:cap(t.Kids)] {
		out = append(out, rooms(kid)...)
	}
	return slices.DeleteFunc(out, func(r room) bool { return r.from == r.to })
}

// checkApart asks that no two stretches have memory in common.
func checkApart(t *testing.T, what string, all []room) {
	t.Helper()
	slices.SortFunc(all, func(a, b room) int { return int(int64(a.from) - int64(b.from)) })
	for i := range len(all) - 1 {
		if all[i].to > all[i+1].from {
			t.Fatalf("P15.5: %s: two lists share memory", short(what))
		}
	}
}

// overwrite writes into each list of a term, spare room too.
func overwrite(t api.Term) {
	for _, kid := range t.Kids {
		overwrite(kid)
	}
	for i := range t.Kids[:cap(t.Kids)] {
		t.Kids[:cap(t.Kids)][i] = api.Term{Kind: api.VName, Text: "Written"}
	}
	for i := range t.Num.Shape[:cap(t.Num.Shape)] {
		t.Num.Shape[:cap(t.Num.Shape)][i] = -1
	}
	for i := range t.Num.Atoms[:cap(t.Num.Atoms)] {
		t.Num.Atoms[:cap(t.Num.Atoms)][i] = -1
	}
}

// memoryTexts are texts of all kinds, and such as tell a fault.
func memoryTexts() []string {
	out := append(someTexts(400), "", "y", "5", "1 2 3", "+", "Mean", "_", "y y", "(", "1x", "'", "+ =: 3", "a =: 3", "A =: +", ")names", ")show  Mean ", "x&+", "((((y))))", "(((1 2)))&+", "+\"1 2 3", "(+`-`*`%`#)@.i.", "pick. 1 do. "+strings.Repeat("2 or. ", 9)+"2 end.", "{{)d "+strings.Repeat("x;", 20)+"y }}", strings.Repeat("1 ", 64), strings.Repeat("+ ", 99), "+"+strings.Repeat("/", 300))
	for _, one := range sentences() {
		out = append(out, "{{)d "+one.s+"; "+one.s+" }}")
	}
	return out
}

// answers tells what all three calls answer.
func answers(s string) string {
	l, at, e := Line(s)
	return fmt.Sprint(verbOf(s).told(), "; ", nounOf(s).told(), "; ", lineTold(l, at, e))
}

// TestMemoryApart: no two lists of an answer, and none of two answers, share memory, spare room too.
func TestMemoryApart(t *testing.T) {
	for _, s := range memoryTexts() {
		l, _, _ := Line(s)
		m, _, _ := Line(s)
		var all []room
		for _, a := range []api.Term{verbOf(s).t, verbOf(s).t, nounOf(s).t, nounOf(s).t, l.Term, m.Term} {
			all = append(all, rooms(a)...)
		}
		for _, args := range [][]string{l.Args, m.Args} {
			if cap(args) > 0 {
				all = append(all, roomOf(args))
			}
		}
		checkApart(t, s, all)
	}
}

// TestWrittenOver: answers written over change nothing that is told later or was told beside.
func TestWrittenOver(t *testing.T) {
	for _, s := range memoryTexts() {
		want := answers(s)
		asVerb, asNoun := verbOf(s), nounOf(s)
		l, at, e := Line(s)
		kept := clone(asVerb.t)
		beside := verbOf(s)
		overwrite(asVerb.t)
		overwrite(asNoun.t)
		overwrite(l.Term)
		for i := range l.Args[:cap(l.Args)] {
			l.Args[:cap(l.Args)][i] = "written"
		}
		_, _ = at, e
		if told(beside.t) != told(kept) {
			t.Fatalf("P15.5: %s: an answer changes with another one", short(s))
		}
		if got := answers(s); got != want {
			t.Fatalf("P15.5: %s: %s; before %s", short(s), short(got), short(want))
		}
	}
}

// TestOneWithin: writing into one list of an answer changes no other one of it.
func TestOneWithin(t *testing.T) {
	for _, s := range memoryTexts() {
		for _, read := range []func(string) answer{verbOf, nounOf} {
			first := read(s).t
			var lists int
			var count func(t *api.Term, each func(*api.Term))
			count = func(t *api.Term, each func(*api.Term)) {
				each(t)
				for i := range t.Kids {
					count(&t.Kids[i], each)
				}
			}
			count(&first, func(*api.Term) { lists++ })
			for at := range min(lists, 40) {
				a, number := read(s).t, 0
				count(&a, func(node *api.Term) {
					if number == at {
						for i := range node.Num.Atoms {
							node.Num.Atoms[i] = 77
						}
						_ = append(node.Num.Atoms, 77, 77)
						_ = append(node.Num.Shape, 77, 77)
						_ = append(node.Kids, api.Term{Kind: 77}, api.Term{Kind: 77})
					}
					number++
				})
				b := clone(first)
				number = 0
				count(&b, func(node *api.Term) {
					if number == at {
						for i := range node.Num.Atoms {
							node.Num.Atoms[i] = 77
						}
					}
					number++
				})
				if told(a) != told(b) {
					t.Fatalf("P15.5: %s: written into node %d: %s; wanted %s", short(s), at, short(told(a)), short(told(b)))
				}
			}
		}
	}
}

// within tells whether a text lies in another one's memory.
func within(text, s string) bool {
	if text == "" || s == "" {
		return false
	}
	from, at := uintptr(unsafe.Pointer(unsafe.StringData(s))), uintptr(unsafe.Pointer(unsafe.StringData(text)))
	return at >= from && at < from+uintptr(len(s))
}

// TestTextsOfTheirOwn: no text of an answer is a piece of the one that was handed in.
func TestTextsOfTheirOwn(t *testing.T) {
	for _, s := range memoryTexts() {
		l, _, _ := Line(s)
		texts := append([]string{l.Name}, l.Args...)
		var gather func(a api.Term)
		gather = func(a api.Term) {
			texts = append(texts, a.Text)
			for _, kid := range a.Kids {
				gather(kid)
			}
		}
		gather(verbOf(s).t)
		gather(nounOf(s).t)
		gather(l.Term)
		for _, text := range texts {
			if within(text, s) {
				t.Fatalf("P15.5: %s: the text %s lies in what was handed in", short(s), short(text))
			}
		}
	}
}

// TestAlone: what was asked before bears on nothing, nor do calls from several goroutines at a time.
func TestAlone(t *testing.T) {
	texts := memoryTexts()
	var first []string
	for _, s := range texts {
		first = append(first, answers(s))
	}
	var group sync.WaitGroup
	for range 8 {
		group.Go(func() {
			for i := range texts {
				at := len(texts) - 1 - i
				if got := answers(strings.Clone(texts[at])); got != first[at] {
					t.Errorf("P15.5: %s: %s; before %s", short(texts[at]), short(got), short(first[at]))
				}
			}
		})
	}
	group.Wait()
}
