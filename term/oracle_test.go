package term

import (
	"regexp"
	"slices"
	"strconv"
	"strings"
	"testing"

	"abacus/api"
)

// row is what the table of P13.4 says of a kind: patterns of the text, of N, of the array and of the kids as letters tells them; an empty one where nothing may stand.
type row struct {
	kinds                []int
	text, n, array, kids string
}

const (
	aNoun    = `[kaxn]`
	aOperand = `[ka]`
)

// table is the chapter's, row by row.
func table() []row {
	return []row{
		{[]int{api.KNum}, ``, ``, `scalar|list ([2-9]|[1-5][0-9]|6[0-4])`, ``},
		{[]int{api.KName}, `[a-z][A-Za-z0-9]{0,31}`, ``, ``, ``},
		{[]int{api.KMon}, ``, ``, ``, `v` + aNoun},
		{[]int{api.KDy}, ``, ``, ``, `v` + aNoun + aNoun},
		{[]int{api.KPick}, ``, ``, ``, aNoun + `{2,17}`},
		{[]int{api.SSay}, ``, ``, ``, aNoun},
		{[]int{api.SSet}, `[a-z][A-Za-z0-9]{0,31}`, ``, ``, aNoun},
		{[]int{api.SIf}, ``, ``, ``, aNoun + `BB`},
		{[]int{api.SWhile}, ``, ``, ``, aNoun + `B`},
		{[]int{api.SBody}, ``, ``, ``, `s*`},
		{[]int{api.VPrim}, `[-+*%|<>=^!#$,{[\]]|[-+*<>][.:]|[,#{}|][.:]|~[.:]|[/\\]:|[ieI]\.`, ``, ``, ``},
		{[]int{api.VName}, `[A-Z][A-Za-z0-9]{0,31}`, ``, ``, ``},
		{[]int{api.VConst}, ``, ``, ``, aOperand},
		{[]int{api.VDef}, ``, `[12]`, ``, `B`},
		{[]int{api.VInsert, api.VPrefix, api.VSuffix, api.VSwap}, ``, ``, ``, `v`},
		{[]int{api.VAtop, api.VAt, api.VComp, api.VApp, api.VUnder, api.VUnderAll, api.VDot, api.VAdverse, api.VObv, api.VBoth, api.VPowV, api.VHook, api.VCap}, ``, ``, ``, `vv`},
		{[]int{api.VBondL}, ``, ``, ``, aOperand + `v`},
		{[]int{api.VBondR, api.VPow}, ``, ``, ``, `v` + aOperand},
		{[]int{api.VRank}, ``, ``, `list [1-3] of ranks`, `v`},
		{[]int{api.VAgenda}, ``, ``, ``, `v{2,17}`},
		{[]int{api.VFork}, ``, ``, ``, `vvv`},
	}
}

// patterns are a row's, made ready.
type patterns struct{ text, n, array, kids *regexp.Regexp }

func rowsByKind() map[int]patterns {
	whole := func(pattern string) *regexp.Regexp { return regexp.MustCompile(`^(?s:` + pattern + `)$`) }
	out := map[int]patterns{}
	for _, r := range table() {
		for _, kind := range r.kinds {
			p := patterns{whole(r.text), whole(r.n), whole(r.array), whole(r.kids)}
			if kind == api.KNum { // any list will do there, one of ranks too
				p.array = whole(`(` + r.array + `)( of ranks)?`)
			}
			out[kind] = p
		}
	}
	return out
}

var byKind = rowsByKind()

// letters tells of kids what the table asks of them: k a KNum, a an operand's name, x another name, n another noun; B a body, s another sentence; v a verb; ? none of these.
func letters(kids []api.Term) string {
	var out strings.Builder
	for _, kid := range kids {
		letter := "?nsv"[wantedClass(kid.Kind)]
		switch {
		case kid.Kind == api.KNum:
			letter = 'k'
		case kid.Kind == api.KName && (kid.Text == "x" || kid.Text == "y"):
			letter = 'x'
		case kid.Kind == api.KName:
			letter = 'a'
		case kid.Kind == api.SBody:
			letter = 'B'
		}
		out.WriteByte(letter)
	}
	return out.String()
}

// arrayKind tells of an array what the table asks of it.
func arrayKind(a api.Array) string {
	if len(a.Shape) == 0 && len(a.Atoms) < 2 {
		return []string{"", "scalar"}[len(a.Atoms)]
	}
	if len(a.Shape) != 1 || a.Shape[0] != len(a.Atoms) {
		return "wrong"
	}
	ranks := []int64{-8, -7, -6, -5, -4, -3, -2, -1, 0, 1, 2, 3, 4, 5, 6, 7, 8, 64}
	out := "list " + decimal(len(a.Atoms))
	for _, n := range a.Atoms {
		if !slices.Contains(ranks, n) {
			return out
		}
	}
	return out + " of ranks"
}

// decimal is a number as text; 0 is empty, as a field that says nothing.
func decimal(n int) string {
	if n == 0 {
		return ""
	}
	return strconv.Itoa(n)
}

// nodeRight holds one node against the table, its kids by their kinds alone.
func nodeRight(t api.Term) bool {
	p, known := byKind[t.Kind]
	return known && p.text.MatchString(t.Text) && p.n.MatchString(decimal(t.N)) && p.array.MatchString(arrayKind(t.Num)) && p.kids.MatchString(letters(t.Kids))
}

// xRight tells whether x stands in no definition of one argument: inner is the N of the definition in which the node stands, 0 outside of all.
func xRight(t api.Term, inner int) bool {
	if inner == 1 && t.Text == "x" && (t.Kind == api.KName || t.Kind == api.SSet) {
		return false
	}
	if t.Kind == api.VDef {
		inner = t.N
	}
	for _, kid := range t.Kids {
		if !xRight(kid, inner) {
			return false
		}
	}
	return true
}

// wantedMay is what P13.3 says of a term that is not too great, and a class that there is.
func wantedMay(t api.Term, class int) api.Errno {
	for _, node := range places(&t) {
		if !nodeRight(*node) {
			return api.ErrTerm
		}
	}
	if !xRight(t, 0) {
		return api.ErrTerm
	}
	if wantedClass(t.Kind) != class {
		return api.ErrKind
	}
	return api.OK
}

// checkAgainstTable holds May against the table, and tells whether the term may be.
func checkAgainstTable(t *testing.T, a api.Term) bool {
	t.Helper()
	good := false
	for class := api.ClassNoun; class <= api.ClassVerb; class++ {
		want := wantedMay(a, class)
		checkMay(t, a, class, want)
		good = good || want == api.OK
	}
	return good
}
