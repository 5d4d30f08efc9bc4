package term

import (
	"slices"
	"strings"
	"testing"

	"abacus/api"
)

func checkNames(t *testing.T, a api.Term, want ...string) {
	t.Helper()
	if got := Names(a); !slices.Equal(got, want) {
		t.Errorf("P13.6: Names(%s): %q, wanted %q", brief(a), got, want)
	}
}

// wantedNames are found by putting each into a set.
func wantedNames(a api.Term) []string {
	set := map[string]bool{}
	for _, node := range places(&a) {
		if node.Kind == 2 || node.Kind == 21 || node.Kind == 11 {
			set[node.Text] = true
		}
	}
	var out []string
	for name := range set {
		out = append(out, name)
	}
	slices.SortFunc(out, strings.Compare)
	return out
}

// TestNames: each once, rising bytewise, of these three kinds alone.
func TestNames(t *testing.T) {
	x, y, u := noun("x"), noun("y"), sign("+")
	checkNames(t, u)
	checkNames(t, list(3))
	checkNames(t, body())
	checkNames(t, def(1))
	checkNames(t, x, "x")
	checkNames(t, verb("Mean"), "Mean")
	checkNames(t, set("a", num(nil, 5)), "a")
	checkNames(t, set("a", noun("a")), "a")
	checkNames(t, of(api.KDy, u, y, x), "x", "y")
	checkNames(t, of(api.KDy, u, y, y), "y")
	checkNames(t, def(2, set("b", x), say(of(api.KMon, verb("B"), y)), set("b", noun("b"))), "B", "b", "x", "y")
	checkNames(t, of(api.VHook, verb("Z"), of(api.VBondL, noun("a"), verb("A"))), "A", "Z", "a")
	checkNames(t, body(set("b", noun("aa")), set("a10", noun("a2")), set("aB", noun("ab")), set("a1", noun("a"))), "a", "a1", "a10", "a2", "aB", "aa", "ab", "b")
	checkNames(t, rich(), "Mean", "a", "b2", "k", "total", "x", "y")
	checkNames(t, def(1, say(of(api.KMon, def(2, say(x)), noun("deep")))), "deep", "x")
}

// TestNamesOfAny: terms that may not be speak of names too, whatever texts they have.
func TestNamesOfAny(t *testing.T) {
	checkNames(t, noun(""), "")
	checkNames(t, of(99, noun("b"), api.Term{Kind: 99, Text: "no"}, noun(""), noun("a")), "", "a", "b")
	checkNames(t, of(0, noun("\xff"), noun("é"), noun("z"), noun("\x00"), noun("Z"), noun("\x00"), noun("\x80")), "\x00", "Z", "z", "\x80", "é", "\xff")
	odd := noun("outer")
	odd.Kids = []api.Term{verb("inner"), {Kind: api.SSet, Text: "Set", Kids: []api.Term{noun("innermost")}}}
	checkNames(t, odd, "Set", "inner", "innermost", "outer")
	for kind := -2; kind <= 50; kind++ {
		want := []string{"b"}
		if kind == api.KName || kind == api.VName || kind == api.SSet {
			want = []string{"b", "c"}
		}
		checkNames(t, api.Term{Kind: kind, Text: "c", Kids: []api.Term{noun("b")}}, want...)
	}
	for _, a := range someTerms() {
		checkNames(t, a, wantedNames(a)...)
	}
}

// TestManyNames: as many as a term can speak of; none of one that is too great.
func TestManyNames(t *testing.T) {
	many := api.Term{Kind: 0}
	var d dice
	for range 4095 {
		many.Kids = append(many.Kids, noun(strings.Repeat("ab", d.throw(3))+string([]byte{byte(d.throw(256)), byte(d.throw(256))})))
	}
	checkNames(t, many, wantedNames(many)...)
	if n := len(Names(many)); n < 3000 {
		t.Errorf("the test itself: %d names", n)
	}
	many.Kids = append(many.Kids, noun("a"))
	checkNames(t, many)
	for what, great := range greatTerms() {
		if names := Names(of(api.VHook, verb("A"), great)); len(names) != 0 {
			t.Errorf("P13.6: %d names of %s", len(names), what)
		}
		if names := Names(great); len(names) != 0 {
			t.Errorf("P13.6: %d names of %s", len(names), what)
		}
	}
	checkNames(t, of(api.VHook, verb("A"), deep(255)), "A")
	checkNames(t, of(api.VHook, verb("A"), deep(256)))
}
