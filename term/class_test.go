package term

import (
	"math"
	"testing"

	"abacus/api"
)

// TestKinds: each kind by its name.
func TestKinds(t *testing.T) {
	for class, kinds := range [][]int{
		api.ClassNoun:     {api.KNum, api.KName, api.KMon, api.KDy, api.KPick},
		api.ClassSentence: {api.SSay, api.SSet, api.SIf, api.SWhile, api.SBody},
		api.ClassVerb: {
			api.VPrim, api.VName, api.VConst, api.VDef, api.VInsert, api.VPrefix, api.VSuffix, api.VSwap, api.VAtop, api.VAt, api.VComp, api.VApp, api.VUnder, api.VUnderAll,
			api.VDot, api.VAdverse, api.VObv, api.VBoth, api.VPowV, api.VBondL, api.VBondR, api.VPow, api.VRank, api.VAgenda, api.VHook, api.VFork, api.VCap,
		},
	} {
		for _, kind := range kinds {
			if got := Class(api.Term{Kind: kind}); got != class {
				t.Errorf("P13.1: Class of kind %d: %d, wanted %d", kind, got, class)
			}
		}
	}
}

// otherKinds are numbers of no kind: those beside the first and the last of each class, 0, such as are below it, and the ends of 64 bits and less.
func otherKinds() []int {
	out := []int{0, 6, 7, 8, 9, 15, 16, 17, 18, 19, 47, 48, 63, 64, 99, 255, 256, 257, 266, 276, 1 << 16, 1<<32 + 1, 1<<32 + 20, 1<<63 - 1}
	for kind := 1; kind <= 46; kind++ {
		out = append(out, -kind, math.MinInt+kind, math.MaxInt-kind, kind<<8, kind<<32)
	}
	return append(out, math.MinInt, math.MaxInt)
}

func TestNoKinds(t *testing.T) {
	for _, kind := range otherKinds() {
		if got := Class(api.Term{Kind: kind}); got != 0 {
			t.Errorf("P13.1: Class of kind %d: %d, wanted 0", kind, got)
		}
	}
	for kind := -300; kind <= 300; kind++ {
		if got, want := Class(api.Term{Kind: kind}), wantedClass(kind); got != want {
			t.Errorf("P13.1: Class of kind %d: %d, wanted %d", kind, got, want)
		}
	}
}

// TestKindAlone: no other field bears on the class, and neither does the size.
func TestKindAlone(t *testing.T) {
	great := []api.Term{{}, {Text: "x", N: -5, Num: array(lengths(-1, 9), 1, 2), Kids: []api.Term{{Kind: 99}, sign("+")}}}
	for _, g := range greatTerms() {
		great = append(great, g)
	}
	for _, g := range great {
		for kind := -2; kind <= 50; kind++ {
			g.Kind = kind
			if got, want := Class(g), wantedClass(kind); got != want {
				t.Errorf("P13.1: Class(%s): %d, wanted %d", brief(g), got, want)
			}
		}
	}
}
