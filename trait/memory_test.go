package trait

import (
	"fmt"
	"slices"
	"strings"
	"sync"
	"testing"

	"abacus/api"
)

// spare is what stands in the spare room of lists that are handed in.
const spare = 987654321

// roomy is a term all of whose lists have spare room, in which spare stands.
func roomy(t api.Term) api.Term {
	out := api.Term{Kind: t.Kind, Text: t.Text, N: t.N}
	out.Num.Shape = append(slices.Clone(t.Num.Shape), spare, spare)[:len(t.Num.Shape)]
	out.Num.Atoms = append(slices.Clone(t.Num.Atoms), spare, spare)[:len(t.Num.Atoms)]
	var kids []api.Term
	for _, kid := range t.Kids {
		kids = append(kids, roomy(kid))
	}
	out.Kids = append(kids, api.Term{Kind: spare}, api.Term{Kind: api.VPrim, Text: "]", N: spare})[:len(kids)]
	return out
}

// roomTold tells a roomy term with its spare room.
func roomTold(t api.Term) string {
	var out strings.Builder
	for _, node := range places(&t) {
		shape, atoms, kids := node.Num.Shape, node.Num.Atoms, node.Kids
		fmt.Fprint(&out, shape[:len(shape)+2], atoms[:len(atoms)+2], kids[:len(kids)+2][len(kids):])
	}
	return told(t) + out.String()
}

// emptied is a term whose nil lists are empty ones.
func emptied(t api.Term) api.Term {
	t.Num = api.Array{Shape: append([]int{}, t.Num.Shape...), Atoms: append([]int64{}, t.Num.Atoms...)}
	kids := []api.Term{}
	for _, kid := range t.Kids {
		kids = append(kids, emptied(kid))
	}
	t.Kids = kids
	return t
}

// someTerms are verbs of every kind, great ones and such as are refused.
func someTerms() []api.Term {
	var out []api.Term
	var d dice
	for range 600 {
		out = append(out, d.verb(2+d.throw(7)))
	}
	for _, v := range wrong() {
		out = append(out, v)
	}
	for _, r := range catalogue() {
		out = append(out, sign(r.spelling))
	}
	return append(out, mostNodes(), nested(api.VSwap, 256, sign("]")), nested(api.VSwap, 257, sign("]")), say(num(1)), noun("y"), mon(sign("]"), num(1, 2)), def(2, set("x", noun("y"))))
}

// answers tells what both calls answer.
func answers(t api.Term) string {
	ranks, e := Ranks(t)
	return fmt.Sprint(ranks, e, Total(t, 1), Total(t, 2), Total(t, 0))
}

// TestUntouched: terms handed in are as they were, spare room too, and that room, and whether a list is nil or empty, bears on nothing.
func TestUntouched(t *testing.T) {
	for _, was := range someTerms() {
		want, text := answers(was), told(was)
		a := roomy(was)
		made := roomTold(a)
		if got := answers(a); got != want {
			t.Fatalf("P16.4: %s: with spare room %s; without %s", brief(text), got, want)
		}
		if roomTold(a) != made {
			t.Fatalf("P16.4: a call changes %s", brief(text))
		}
		for _, again := range []api.Term{emptied(was), clone(was), was} {
			if got := answers(again); got != want {
				t.Fatalf("P16.4: %s: asked again %s; before %s", brief(text), got, want)
			}
		}
		if told(was) != text {
			t.Fatalf("P16.4: a call changes %s", brief(text))
		}
	}
}

// TestSharedLists: lists that stand at many places stay as they are.
func TestSharedLists(t *testing.T) {
	count := num(0)
	pair := append(make([]api.Term, 0, 5), of(api.VPow, sign("%"), count), ranked(sign("]"), 1, 64, 64))
	shared := []api.Term{of(api.VBoth, pair...), of(api.VObv, pair...), of(api.VAdverse, pair...)}
	whole := of(api.VFork, of(api.VFork, shared...), of(api.VFork, shared...), of(api.VFork, shared...))
	was := told(whole)
	for range 3 {
		checkRanks(t, whole, [3]int{64, 64, 64})
		checkBoth(t, whole, true, true)
		checkBoth(t, of(api.VAt, pair...), false, true)
		checkRanks(t, of(api.VAtop, pair...), [3]int{1, 64, 64})
	}
	if told(whole) != was {
		t.Errorf("P16.4: a call changes lists that are shared: %s", brief(told(whole)))
	}
	for _, room := range pair[:5][2:] {
		if told(room) != told(api.Term{}) {
			t.Errorf("P16.4: a call writes into spare room: %s", told(room))
		}
	}
}

// TestChanged: a call goes by what its argument is then, not by what the same lists held before; others' answers stay.
func TestChanged(t *testing.T) {
	other := clone(read(t, `]"1 2 3`))
	v := clone(read(t, `((#"1 2 3)~ : (]^:0))`))
	checkBoth(t, v, false, true)
	checkRanks(t, v, [3]int{64, 64, 64})
	v.Kids[1].Kids[1].Num.Atoms[0] = -1
	checkBoth(t, v, false, false)
	v.Kids[1].Kids[1].Num.Atoms[0] = 2
	checkBoth(t, v, false, true)
	v.Kids[1].Kids[0].Text = "+"
	checkBoth(t, v, false, false)
	v.Kids[1] = v.Kids[0]
	checkRanks(t, v, [3]int{64, 3, 2})
	v.Kids[1].Kids[0].Num.Atoms[1] = -8
	checkRanks(t, v, [3]int{64, 3, -8})
	v.Kids[0].Kids[0].Num.Atoms[1] = 77
	checkNone(t, "a rank of 77", v, api.ErrTerm)
	checkRanks(t, other, [3]int{1, 2, 3})
	checkRanks(t, read(t, `]"1 2 3`), [3]int{1, 2, 3})
}

// TestAlone: what was asked before bears on nothing, nor do calls from several goroutines at a time.
func TestAlone(t *testing.T) {
	terms := someTerms()
	var first []string
	for _, a := range terms {
		first = append(first, answers(a))
	}
	var group sync.WaitGroup
	for range 8 {
		group.Go(func() {
			for i := range terms {
				at := len(terms) - 1 - i
				if got := answers(terms[at]); got != first[at] {
					t.Errorf("P16.4: %s: %s; before %s", brief(told(terms[at])), got, first[at])
				}
			}
		})
	}
	group.Wait()
}
