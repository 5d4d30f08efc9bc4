package print

import (
	"testing"

	"abacus/api"
)

// TestVerbExamples: the chapter's.
func TestVerbExamples(t *testing.T) {
	plus, minus, times := prim("+"), prim("-"), prim("*")
	checkVerbs(t, []written{
		{of(api.VInsert, plus), "+/"}, {of(api.VInsert, of(api.VAtop, plus, minus)), "+@-/"}, {of(api.VAtop, plus, of(api.VInsert, minus)), "+@(-/)"},
		{of(api.VFork, of(api.VInsert, plus), prim("%"), prim("#")), "(+/ % #)"}, {of(api.VCap, minus, times), "([: - *)"}, {of(api.VHook, plus, of(api.VHook, minus, times)), "(+ (- *))"},
		{ranked(plus, 0, 64), `+"0 _`}, {constant(5), `5"_`}, {of(api.VConst, noun("total")), `total"_`},
		{of(api.VBondL, num(1, 2), plus), "1 2&+"}, {of(api.VBondR, plus, num(-1)), "+&_1"}, {of(api.VPow, plus, num(2)), "+^:2"},
		{of(api.VAgenda, times, plus, minus), "(+`-)@.*"}, {of(api.VAgenda, of(api.VInsert, times), plus), "+@.(*/)"},
		{of(api.VBoth, plus, minus), "+ : -"}, {of(api.VDot, of(api.VInsert, plus), times), "+/ .. *"}, {of(api.VSwap, of(api.VBoth, plus, minus)), "+ : -~"},
		{of(api.VFork, constant(1), plus, constant(2)), `(1"_ + 2"_)`}, {of(api.VHook, constant(1), constant(2)), `(1"_ (2"_))`},
		{def(1, set("a", mon(minus, noun("y"))), say(noun("a"))), "{{)m a =. - y; a }}"}, {def(2), "{{)d }}"},
		{def(1, of(api.SIf, noun("y"), body(say(num(1))), body())), "{{)m if. y do. 1 else. end. }}"},
	})
}

// TestNounExamples: the chapter's.
func TestNounExamples(t *testing.T) {
	plus, minus, times, y := prim("+"), prim("-"), prim("*"), noun("y")
	checkNouns(t, []written{
		{mon(minus, y), "- y"}, {dy(plus, dy(times, num(2), num(3)), num(4)), "(2 * 3) + 4"}, {dy(plus, num(2), dy(times, num(3), num(4))), "2 + 3 * 4"},
		{mon(constant(5), num(3)), `(5"_) 3`}, {mon(constant(5), y), `5"_ y`}, {dy(of(api.VBondL, num(2), plus), num(1), y), "1 (2&+) y"}, {mon(of(api.VBondL, num(2), plus), y), "2&+ y"},
		{of(api.KPick, y, num(1), mon(minus, num(2))), "pick. y do. 1 or. - 2 end."},
	})
}
