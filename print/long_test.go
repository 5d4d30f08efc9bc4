package print

import (
	"slices"
	"strings"
	"testing"

	"abacus/api"
)

// longest is a definition whose text has just so many bytes, 2000 at least.
func longest(bytes int) api.Term {
	wide := say(num(slices.Repeat([]int64{api.Min}, api.MaxList)...))
	const ofWide = 64*20 + 63
	t := body()
	// What is left, with the two bytes that each sentence but the last one has behind it.
	left := bytes - len("{{)m ") - len(" }}") + 2
	for ; left > ofWide+2+100; left -= ofWide + 2 {
		t.Kids = append(t.Kids, wide)
	}
	for ; left > api.MaxName+2; left -= 22 {
		t.Kids = append(t.Kids, say(noun(strings.Repeat("a", 20))))
	}
	t.Kids = append(t.Kids, say(noun(strings.Repeat("a", left-2))))
	return api.Term{Kind: api.VDef, N: 1, Kids: []api.Term{t}}
}

// TestLongest: texts of 2^20 bytes are written, those of one more are not, wherever the last byte comes from.
func TestLongest(t *testing.T) {
	plus, y, n := prim("+"), noun("y"), num(7)
	within := func(n api.Term) api.Term { return def(1, say(n)) }
	around := map[string]func(u api.Term) api.Term{
		"a definition": func(u api.Term) api.Term { return u },
		"an adverb":    func(u api.Term) api.Term { return of(api.VInsert, u) },
		"a long sign":  func(u api.Term) api.Term { return of(api.VSuffix, u) },
		"a constant":   func(u api.Term) api.Term { return of(api.VAtop, u, constant(5)) },
		"a rank":       func(u api.Term) api.Term { return ranked(u, 64) },
		"ranks":        func(u api.Term) api.Term { return ranked(u, 1, -8, 64) },
		"an operand":   func(u api.Term) api.Term { return of(api.VBondR, u, num(1, -2)) },
		"a name":       func(u api.Term) api.Term { return of(api.VPow, u, noun("times")) },
		"a verb":       func(u api.Term) api.Term { return of(api.VAt, u, verb("Mean")) },
		"behind":       func(u api.Term) api.Term { return of(api.VBoth, constant(5), u) },
		"an agenda":    func(u api.Term) api.Term { return of(api.VAgenda, u, plus, plus) },
		"its branch":   func(u api.Term) api.Term { return of(api.VAgenda, plus, plus, u) },
		"a hook":       func(u api.Term) api.Term { return of(api.VHook, u, plus) },
		"a cap":        func(u api.Term) api.Term { return of(api.VCap, plus, u) },
		"a train":      func(u api.Term) api.Term { return of(api.VFork, ranked(u, 1), constant(2), constant(3)) },
		"a monad":      func(u api.Term) api.Term { return mon(u, y) },
		"a number":     func(u api.Term) api.Term { return mon(ranked(u, 1), n) },
		"a dyad":       func(u api.Term) api.Term { return dy(u, mon(plus, n), num(1, 2)) },
		"on the left":  func(u api.Term) api.Term { return dy(plus, mon(u, y), n) },
		"a pick":       func(u api.Term) api.Term { return of(api.KPick, y, n, mon(u, y)) },
		"a setting":    func(u api.Term) api.Term { return def(2, set("a", mon(u, y))) },
		"an if":        func(u api.Term) api.Term { return def(2, of(api.SIf, y, body(), body(say(mon(u, y))))) },
		"its end":      func(u api.Term) api.Term { return def(2, of(api.SIf, mon(u, y), body(say(y)), body())) },
		"a while":      func(u api.Term) api.Term { return def(2, of(api.SWhile, mon(u, y), body(say(y)))) },
		"deeper":       func(u api.Term) api.Term { return within(mon(of(api.VInsert, of(api.VAtop, plus, u)), n)) },
	}
	for what, put := range around {
		// What is around a definition, by its own text.
		more := len(wanted(put(def(1)))) - len("{{)m }}")
		whole := put(longest(api.MaxText - more))
		s, e := text(whole)
		if e != api.OK || len(s) != api.MaxText || s != wanted(whole) {
			t.Errorf("P14.1, P14.2: %s, 2^20 bytes: %d, %v", what, len(s), e)
		}
		for _, beyond := range []int{1, 2, 10, 500000} {
			whole := put(longest(api.MaxText - more + beyond))
			if s, e := text(whole); s != "" || e != api.ErrLong {
				t.Errorf("P14.1, P14.2: %s, 2^20 + %d bytes: %d bytes, %v", what, beyond, len(s), e)
			}
		}
	}
}

// TestFarTooLong: many numbers, whatever they stand in.
func TestFarTooLong(t *testing.T) {
	wide := num(slices.Repeat([]int64{api.Min}, api.MaxList)...)
	most := def(1, slices.Repeat([]api.Term{say(wide)}, 2040)...)
	checkRefused(t, "a definition", most, api.ErrLong, api.ErrKind)
	checkRefused(t, "what a definition gives", mon(most, wide), api.ErrKind, api.ErrLong)
	branches := of(api.KPick, slices.Repeat([]api.Term{wide}, 17)...)
	picks := of(api.KPick, slices.Repeat([]api.Term{branches}, 17)...)
	third := of(api.VBondL, wide, prim("+"))
	for range 5 {
		third = of(api.VFork, third, third, third)
	}
	trains := of(api.VFork, third, third, third)
	checkRefused(t, "three picks", dy(prim("+"), picks, dy(prim("+"), picks, picks)), api.ErrKind, api.ErrLong)
	if s, e := Noun(dy(prim("+"), picks, picks)); e != api.OK || len(s) < 700000 {
		t.Errorf("P14.2: two picks: %d bytes, %v", len(s), e)
	}
	if s, e := Verb(trains); e != api.OK || s != wanted(trains) {
		t.Errorf("P14.1: a train of 729: %d bytes, %v", len(s), e)
	}
	checkRefused(t, "a gerund of trains", of(api.VAgenda, prim("+"), trains, third), api.ErrLong, api.ErrKind)
}
