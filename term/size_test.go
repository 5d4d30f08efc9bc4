package term

import (
	"math/big"
	"testing"

	"abacus/api"
)

func checkSize(t *testing.T, what string, a api.Term, nodes, depth int) {
	t.Helper()
	if n, d := Size(a); n != nodes || d != depth {
		t.Errorf("P13.2: Size of %s: %d, %d; wanted %d, %d", what, n, d, nodes, depth)
	}
}

// TestSizes: small ones, and those at the ends.
func TestSizes(t *testing.T) {
	for n := 1; n <= 256; n++ {
		checkSize(t, "a chain", deep(n), n, n)
	}
	for levels := range 11 {
		checkSize(t, "one list at each level", folded(levels), 1<<(levels+1)-1, levels+1)
	}
	checkSize(t, "no kind", api.Term{}, 1, 1)
	checkSize(t, "an empty body", body(), 1, 1)
	checkSize(t, "4095 nodes", longBody(4095), 4095, 3)
	checkSize(t, "4096 nodes below one another", of(api.VAgenda, folded(10), folded(10), sign("+")), 1+2*2047+1, 12)
	checkSize(t, "4096 nodes beside one another", of(api.SBody, repeated(sign("+"), 4095)...), 4096, 2)
	checkSize(t, "4096 nodes, 256 deep", wideAt(255, 4096-255), 4096, 256)
	checkSize(t, "4095 nodes, 256 deep at the end", of(api.VHook, of(0, repeated(sign("+"), 3838)...), deep(255)), 4095, 256)
	checkSize(t, "256 deep at first", of(api.VHook, deep(255), sign("+")), 257, 256)
	checkSize(t, "two chains", of(api.VHook, deep(255), deep(255)), 511, 256)
	checkSize(t, "a term of any fields", of(-5, api.Term{Kind: 99, N: 7}, of(api.KNum, sign("++"), noun(""))), 5, 3)
}

// TestTooGreat: each is told by the same two numbers, whichever of the limits it is beyond.
func TestTooGreat(t *testing.T) {
	for what, great := range greatTerms() {
		checkSize(t, what, great, 4097, 257)
	}
	checkSize(t, "one list at each level, 8191 nodes", folded(12), 4097, 257)
	checkSize(t, "4097 nodes beside one another", of(api.SBody, repeated(sign("+"), 4096)...), 4097, 257)
	checkSize(t, "4097 nodes, 256 deep", wideAt(255, 4097-255), 4097, 257)
	checkSize(t, "257 deep at first", of(api.VHook, deep(256), sign("+")), 4097, 257)
	checkSize(t, "257 deep at last", of(api.VHook, sign("+"), deep(256)), 4097, 257)
	checkSize(t, "4097 nodes, the last one by itself", of(api.VAgenda, folded(10), folded(10), sign("+"), sign("+")), 4097, 257)
}

// measured is a term and what it was made to have.
type measured struct {
	term  api.Term
	nodes *big.Int
	depth int
}

// TestSizesOfShared: terms that are made of those before, whose lists stand at many places, are counted as they are made.
func TestSizesOfShared(t *testing.T) {
	var d dice
	fit, great := 0, 0
	for range 300 {
		made := []measured{{sign("+"), big.NewInt(1), 1}}
		for range 60 {
			next := measured{api.Term{Kind: d.throw(60) - 5}, big.NewInt(1), 1}
			for range d.throw(5) {
				kid := made[max(0, len(made)-1-d.throw(4))]
				next.term.Kids = append(next.term.Kids, kid.term)
				next.nodes.Add(next.nodes, kid.nodes)
				next.depth = max(next.depth, kid.depth+1)
			}
			made = append(made, next)
			if next.nodes.Cmp(big.NewInt(4096)) > 0 || next.depth > 256 {
				great++
				checkSize(t, "a great one: "+brief(next.term), next.term, 4097, 257)
				continue
			}
			fit++
			checkSize(t, brief(next.term), next.term, int(next.nodes.Int64()), next.depth)
		}
	}
	if fit < 1000 || great < 1000 {
		t.Errorf("the test itself: %d terms, and %d too great", fit, great)
	}
}
