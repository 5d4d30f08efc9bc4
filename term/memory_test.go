package term

import (
	"fmt"
	"slices"
	"strings"
	"sync"
	"testing"
	"unsafe"

	"abacus/api"
)

// wantedText tells a term whole, node by node, lists that are empty as those that are nil.
func wantedText(t api.Term) string {
	var out strings.Builder
	for _, node := range places(&t) {
		fmt.Fprintf(&out, "%d %q %d %v %v %d; ", node.Kind, node.Text, node.N, node.Num.Shape, node.Num.Atoms, len(node.Kids))
	}
	return out.String()
}

// spare is what stands in the spare room of lists that are handed in.
const spare = 987654321

// roomy is a term all of whose lists have spare room, in which spare stands.
func roomy(t api.Term) api.Term {
	out := api.Term{Kind: t.Kind, Text: t.Text, N: t.N}
	out.Num.Shape = append(slices.Clone(t.Num.Shape), spare, spare)[:len(t.Num.Shape)]
	out.Num.Atoms = append(slices.Clone(t.Num.Atoms), spare, spare)[:len(t.Num.Atoms)]
	var kids []api.Term
	for _, kid := range t.Kids {
		kids = append(kids, roomy(kid))
	}
	out.Kids = append(kids, api.Term{Kind: spare}, api.Term{Kind: spare, N: spare})[:len(kids)]
	return out
}

// roomTold tells a roomy term with its spare room.
func roomTold(t api.Term) string {
	var out strings.Builder
	for _, node := range places(&t) {
		shape, atoms, kids := node.Num.Shape, node.Num.Atoms, node.Kids
		fmt.Fprint(&out, shape[:len(shape)+2], atoms[:len(atoms)+2], kids[:len(kids)+2][len(kids):])
	}
	return wantedText(t) + out.String()
}

// lists are all lists of a term, in all its depth.
type lists struct {
	shapes [][]int
	atoms  [][]int64
	kids   [][]api.Term
}

func listsOf(t api.Term) lists {
	var out lists
	for _, node := range places(&t) {
		out.shapes = append(out.shapes, node.Num.Shape[:cap(node.Num.Shape)])
		out.atoms = append(out.atoms, node.Num.Atoms[:cap(node.Num.Atoms)])
		out.kids = append(out.kids, node.Kids[:cap(node.Kids)])
	}
	return out
}

// spoil writes into each list, spare room too, numbers by which that list alone is known.
func (l lists) spoil(first int) {
	for i := range l.kids {
		for at := range l.shapes[i] {
			l.shapes[i][at] = first + i
		}
		for at := range l.atoms[i] {
			l.atoms[i][at] = int64(first + i)
		}
		for at := range l.kids[i] {
			l.kids[i][at] = api.Term{Kind: first + i}
		}
	}
}

// spoiled tells whether each list is as spoil left it.
func (l lists) spoiled(first int) bool {
	for i := range l.kids {
		other := func(n int) bool { return n != first+i }
		if slices.ContainsFunc(l.shapes[i], other) ||
			slices.ContainsFunc(l.atoms[i], func(n int64) bool { return other(int(n)) }) ||
			slices.ContainsFunc(l.kids[i], func(kid api.Term) bool { return other(kid.Kind) }) {
			return false
		}
	}
	return true
}

// smallTerms are terms that are not too great, some with lists at many places.
func smallTerms() []api.Term {
	one := list(3)
	kids := []api.Term{one, one, noun("a")}
	twice := of(0, of(1, kids...), of(2, kids...), of(3, kids[:2]...))
	return append(someTerms(), folded(8), deep(256), longBody(501), arms(2), twice)
}

// TestCopy: what is answered is the same, in memory of its own: whoever writes into it changes neither what was handed in nor another answer, and no two of its lists share any.
func TestCopy(t *testing.T) {
	for _, a := range smallTerms() {
		want := wantedText(a)
		first, e := Copy(a)
		second, e2 := Copy(a)
		if e != api.OK || e2 != api.OK || wantedText(first) != want || wantedText(second) != want || !Same(first, a) {
			t.Fatalf("P13.7: Copy(%s): %s, %v", brief(a), brief(first), e)
		}
		ofFirst, ofSecond := listsOf(first), listsOf(second)
		ofFirst.spoil(1000)
		if wantedText(second) != want || wantedText(a) != want {
			t.Fatalf("P13.7: Copy(%s): written over, it changes another term", brief(a))
		}
		ofSecond.spoil(1 << 20)
		if !ofFirst.spoiled(1000) || !ofSecond.spoiled(1<<20) {
			t.Fatalf("P13.7: Copy(%s): two lists of its answers share memory", brief(a))
		}
		if wantedText(a) != want {
			t.Fatalf("P13.7: Copy(%s): written over, it changes what was handed in", brief(a))
		}
	}
}

// TestCopyAppend: whoever appends to a list of an answer, and whoever changes what was handed in, changes no answer.
func TestCopyAppend(t *testing.T) {
	for _, was := range smallTerms() {
		a, want := roomy(was), wantedText(was)
		made := roomTold(a)
		got, _ := Copy(a)
		for _, node := range places(&got) {
			_ = append(node.Num.Shape, 1)
			_ = append(node.Num.Atoms, 1)
			_ = append(node.Kids, api.Term{Kind: 1})
		}
		if roomTold(a) != made || wantedText(got) != want {
			t.Fatalf("P13.7: Copy(%s): appended to, it changes something", brief(was))
		}
		listsOf(a).spoil(1000)
		if wantedText(got) != want {
			t.Fatalf("P13.7: Copy(%s) changes with what was handed in", brief(was))
		}
	}
}

// TestCopyOfGreat: nothing but the error is told.
func TestCopyOfGreat(t *testing.T) {
	for what, great := range greatTerms() {
		got, e := Copy(great)
		if e != api.ErrLong || wantedText(got) != wantedText(api.Term{}) {
			t.Errorf("P13.7: Copy of %s: %s, %v", what, brief(got), e)
		}
	}
	for _, a := range []api.Term{deep(257), longBody(4097), folded(12)} {
		if got, e := Copy(a); e != api.ErrLong || got.Kind != 0 || got.Kids != nil {
			t.Errorf("P13.7: Copy(%s): %s, %v", brief(a), brief(got), e)
		}
	}
	for _, a := range []api.Term{deep(256), longBody(4095), folded(11), wideAt(255, 4096-255)} {
		if got, e := Copy(a); e != api.OK || wantedText(got) != wantedText(a) {
			t.Errorf("P13.7: Copy(%s): %s, %v", brief(a), brief(got), e)
		}
	}
}

// within tells whether a text lies in another one's memory.
func within(text, whole string) bool {
	if text == "" {
		return false
	}
	from, at := uintptr(unsafe.Pointer(unsafe.StringData(whole))), uintptr(unsafe.Pointer(unsafe.StringData(text)))
	return at >= from && at < from+uintptr(len(whole))
}

// TestTextsOfTheirOwn: a text that is answered is no piece of one that was handed in.
func TestTextsOfTheirOwn(t *testing.T) {
	whole := strings.Repeat("name", 10)
	a := of(api.VHook, verb(whole[4:12]), set(whole[:5], noun(whole[1:30])), api.Term{Kind: api.VPrim, Text: whole})
	got, _ := Copy(a)
	for _, node := range places(&got) {
		if within(node.Text, whole) {
			t.Errorf("P13.8: Copy: the text %q lies in what was handed in", node.Text)
		}
	}
	names := Names(a)
	for _, name := range names {
		if within(name, whole) {
			t.Errorf("P13.8: Names: the text %q lies in what was handed in", name)
		}
	}
	if len(names) != 3 {
		t.Errorf("P13.6: %q", names)
	}
}

// callAll makes every call, and tells all that they answer.
func callAll(a, b api.Term) string {
	var out strings.Builder
	for class := -1; class <= 4; class++ {
		fmt.Fprintln(&out, May(a, class))
	}
	nodes, depth := Size(a)
	got, e := Copy(a)
	fmt.Fprintln(&out, Class(a), nodes, depth, Same(a, b), Same(b, a), Same(a, a), Same(a, got), Names(a), wantedText(got), e)
	return out.String()
}

// TestUntouched: what is handed in is as it was behind every call, spare room too, and that room bears on nothing.
func TestUntouched(t *testing.T) {
	other := roomy(rich())
	otherMade := roomTold(other)
	for _, was := range smallTerms() {
		a := roomy(was)
		made := roomTold(a)
		if callAll(a, other) != callAll(was, rich()) {
			t.Fatalf("P13.8: spare room bears on the answers of %s", brief(was))
		}
		if roomTold(a) != made || roomTold(other) != otherMade {
			t.Fatalf("P13.8: a call changes %s", brief(was))
		}
	}
}

// TestNamesMemory: names that are written over change no term and no later answer.
func TestNamesMemory(t *testing.T) {
	for _, a := range smallTerms() {
		want, told := wantedNames(a), wantedText(a)
		first, second := Names(a), Names(a)
		for _, names := range [][]string{first, second} {
			if !slices.Equal(names, want) {
				t.Fatalf("P13.8: Names(%s): %q", brief(a), names)
			}
			for i := range names[:cap(names)] {
				names[:cap(names)][i] = "written"
			}
		}
		_ = append(first[:0], "appended")
		if slices.Contains(second, "appended") || wantedText(a) != told || !slices.Equal(Names(a), want) {
			t.Fatalf("P13.8: Names(%s): written over, they change something", brief(a))
		}
	}
}

// TestGreatEndSoon: terms of 2^60 nodes and more, and rings, many a time at every call.
func TestGreatEndSoon(t *testing.T) {
	want := callAll(folded(60), folded(60))
	for what, great := range greatTerms() {
		great.Kind = api.VHook
		for range 20 {
			if callAll(great, great) != want || callAll(great, sign("+")) != want || callAll(of(api.VHook, sign("+"), great, great), great) != want {
				t.Fatalf("P13.8: %s is not told as others that are too great", what)
			}
		}
	}
	for levels := 13; levels <= 250; levels++ {
		if got := callAll(folded(levels), folded(levels)); got != want {
			t.Fatalf("P13.8: %d levels of one list: %s", levels, got)
		}
	}
}

// TestAlone: what was asked before bears on nothing, nor do calls from several goroutines at a time.
func TestAlone(t *testing.T) {
	terms := append(goodNodes(), folded(60), ring(api.VInsert, 1), api.Term{})
	var first []string
	for _, a := range terms {
		first = append(first, callAll(a, a))
	}
	var group sync.WaitGroup
	for range 8 {
		group.Go(func() {
			for i := range terms {
				at := len(terms) - 1 - i
				if got := callAll(terms[at], terms[at]); got != first[at] {
					t.Errorf("P13.8: %s: %s; before: %s", brief(terms[at]), got, first[at])
				}
			}
		})
	}
	group.Wait()
}
