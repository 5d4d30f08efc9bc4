package print

import (
	"fmt"
	"slices"
	"strings"
	"sync"
	"testing"
	"unsafe"

	"abacus/api"
)

// spare is what stands in the spare room of lists that are handed in.
const spare = 987654321

// roomy is a term all of whose lists have spare room, in which spare stands.
func roomy(t api.Term) api.Term {
	out := api.Term{Kind: t.Kind, Text: t.Text, N: t.N}
	out.Num.Shape = append(slices.Clone(t.Num.Shape), spare, spare)[:len(t.Num.Shape)]
	out.Num.Atoms = append(slices.Clone(t.Num.Atoms), spare, spare)[:len(t.Num.Atoms)]
	var kids []api.Term
	for _, kid := range t.Kids {
		kids = append(kids, roomy(kid))
	}
	out.Kids = append(kids, api.Term{Kind: spare}, api.Term{Kind: api.VPrim, Text: "+", N: spare})[:len(kids)]
	return out
}

// roomTold tells a roomy term with its spare room.
func roomTold(t api.Term) string {
	var out strings.Builder
	for _, node := range places(&t) {
		shape, atoms, kids := node.Num.Shape, node.Num.Atoms, node.Kids
		fmt.Fprint(&out, shape[:len(shape)+2], atoms[:len(atoms)+2], kids[:len(kids)+2][len(kids):])
	}
	return told(t) + out.String()
}

// emptied is a term whose nil lists are empty ones.
func emptied(t api.Term) api.Term {
	t.Num = api.Array{Shape: append([]int{}, t.Num.Shape...), Atoms: append([]int64{}, t.Num.Atoms...)}
	kids := []api.Term{}
	for _, kid := range t.Kids {
		kids = append(kids, emptied(kid))
	}
	t.Kids = kids
	return t
}

// overwrite writes into each list of a term, spare room too.
func overwrite(t api.Term) {
	for _, kid := range t.Kids {
		overwrite(kid)
	}
	for i := range t.Kids[:cap(t.Kids)] {
		t.Kids[:cap(t.Kids)][i] = api.Term{Kind: api.VName, Text: "Written"}
	}
	for i := range t.Num.Shape[:cap(t.Num.Shape)] {
		t.Num.Shape[:cap(t.Num.Shape)][i] = -1
	}
	for i := range t.Num.Atoms[:cap(t.Num.Atoms)] {
		t.Num.Atoms[:cap(t.Num.Atoms)][i] = -1
	}
}

// someTerms are terms of every kind, terms that share their lists, and such as are refused.
func someTerms() []api.Term {
	var out []api.Term
	for _, v := range eachVerb() {
		out = append(out, v.t, mon(v.t, num(1, 2)), def(2, set("x", dy(v.t, noun("x"), num(3))), of(api.SWhile, noun("y"), body(say(num(1))))))
	}
	for _, t := range wrong() {
		if len(places(&t)) < 100 {
			out = append(out, t)
		}
	}
	var d thrower
	for range 200 {
		out = append(out, d.thrown())
	}
	return append(out, folded(8), deep(256), deep(257), say(num(1)), body(), of(api.KPick, slices.Repeat([]api.Term{num(1)}, 17)...))
}

// answers tells what both calls answer.
func answers(t api.Term) string {
	asVerb, e := Verb(t)
	asNoun, e2 := Noun(t)
	return fmt.Sprintf("%q %d %q %d", asVerb, e, asNoun, e2)
}

// TestUntouched: terms handed in are as they were, spare room too, and that room, and whether a list is nil or empty, bears on nothing.
func TestUntouched(t *testing.T) {
	for _, was := range someTerms() {
		want := answers(was)
		a := roomy(was)
		made := roomTold(a)
		if got := answers(a); got != want {
			t.Fatalf("P14.4: with spare room %s; without %s", short(got), short(want))
		}
		if roomTold(a) != made {
			t.Fatalf("P14.4: a call changes %s", short(told(was)))
		}
		if got := answers(emptied(was)); got != want {
			t.Fatalf("P14.4: with empty lists %s; with nil ones %s", short(got), short(want))
		}
		if got := answers(clone(was)); got != want || answers(was) != want {
			t.Fatalf("P14.4: asked again %s; before %s", short(got), short(want))
		}
	}
}

// TestSharedLists: lists that stand at many places are written at each, and stay as they are.
func TestSharedLists(t *testing.T) {
	operand := num(1, 2)
	pair := append(make([]api.Term, 0, 5), of(api.VBondL, operand, prim("+")), of(api.VBondR, prim("+"), operand))
	shared := []api.Term{of(api.VHook, pair...), of(api.VCap, pair...), of(api.VAtop, pair...), of(api.VAgenda, pair...)}
	whole := of(api.VAgenda, append(shared, of(api.VAgenda, shared...))...)
	was := told(whole)
	checkVerb(t, whole, wanted(clone(whole)))
	checkVerb(t, of(api.VHook, whole, whole), "("+wanted(whole)+" "+wanted(whole)+")")
	for _, room := range pair[:5][2:] {
		if told(room) != told(api.Term{}) {
			t.Errorf("P14.4: Verb writes into spare room: %s", told(room))
		}
	}
	if told(whole) != was {
		t.Errorf("P14.4: Verb changes lists that are shared: %s", short(told(whole)))
	}
	checkVerb(t, folded(11), wanted(folded(11)))
}

// TestNotKept: a text stays when the term is written over behind the call, and nothing of that term comes back.
func TestNotKept(t *testing.T) {
	for _, was := range someTerms() {
		a := roomy(was)
		s, e := text(a)
		kept := strings.Clone(s)
		overwrite(a)
		if s != kept {
			t.Fatalf("P14.4: the answer %s changes with what was handed in", short(kept))
		}
		if again, e2 := text(was); again != kept || e2 != e {
			t.Fatalf("P14.4: %s, %v; before that %s, %v", short(again), e2, short(kept), e)
		}
	}
}

// TestChanged: a call goes by what its argument is then, not by what the same lists held before.
func TestChanged(t *testing.T) {
	n := num(1, 2)
	whole := of(api.VHook, of(api.VBondL, n, prim("+")), constant(5))
	checkVerb(t, whole, `(1 2&+ 5"_)`)
	n.Num.Atoms[1] = -7
	checkVerb(t, whole, `(1 _7&+ 5"_)`)
	whole.Kids[0].Kids[1] = ranked(verb("A"), 64)
	checkVerb(t, whole, `(1 _7&(A"_) 5"_)`)
	whole.Kids[0] = whole.Kids[0].Kids[1]
	checkVerb(t, whole, `(A"_ (5"_))`)
	n.Num.Atoms[0] = 1
	checkNoun(t, n, "1 _7")
}

// TestTextsOfTheirOwn: a text that is answered is no piece of one that was handed in.
func TestTextsOfTheirOwn(t *testing.T) {
	whole := strings.Repeat("Name", 8)
	name := whole[1:9]
	for _, a := range []api.Term{noun(name), verb(whole), verb(whole[4:12]), prim("+-"[:1])} {
		s, e := text(a)
		from, at := uintptr(unsafe.Pointer(unsafe.StringData(a.Text))), uintptr(unsafe.Pointer(unsafe.StringData(s)))
		if s != a.Text || e != api.OK || at >= from && at < from+uintptr(len(a.Text)) {
			t.Errorf("P14.4: %q, %v: it lies in what was handed in", s, e)
		}
	}
}

// TestAlone: what was asked before bears on nothing, a text that was given up too, nor do calls from several goroutines at a time.
func TestAlone(t *testing.T) {
	terms := append(someTerms(), longest(api.MaxText+1))
	var first []string
	for _, a := range terms {
		first = append(first, answers(a))
	}
	var group sync.WaitGroup
	for range 8 {
		group.Go(func() {
			for i := range terms {
				at := len(terms) - 1 - i
				if got := answers(terms[at]); got != first[at] {
					t.Errorf("P14.4: %s; before %s", short(got), short(first[at]))
				}
			}
		})
	}
	group.Wait()
}
