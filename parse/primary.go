package parse

import (
	"slices"
	"strconv"
	"strings"

	"abacus/api"
)

// primary reads a primary.
func (r *reader) primary() api.Term {
	switch w := r.word(); w.Kind {
	case numbers:
		return r.number()
	case nounName:
		return api.Term{Kind: api.KName, Text: r.take().Text}
	case verbName:
		return api.Term{Kind: api.VName, Text: r.take().Text}
	case primitive:
		return api.Term{Kind: api.VPrim, Text: r.take().Text}
	}
	return r.enclosed()
}

// enclosed reads a primary that a mark opens.
func (r *reader) enclosed() api.Term {
	w := r.word()
	switch w.Text {
	case "(":
		return r.within(r.bracket, ")")
	case "{{)m":
		return api.Term{Kind: api.VDef, N: 1, Kids: []api.Term{r.within(r.body, "}}")}}
	case "{{)d":
		return api.Term{Kind: api.VDef, N: 2, Kids: []api.Term{r.within(r.body, "}}")}}
	case "pick.":
		return r.within(r.pick, "end.")
	}
	panic(misplaced(w))
}

// number reads a number word that is a noun.
func (r *reader) number() api.Term {
	w := r.take()
	fields := strings.Split(w.Text, " ")
	if slices.Contains(fields, "_") {
		panic(misplaced(w))
	}
	t := api.Term{Kind: api.KNum, Num: listOf(fields)}
	if len(fields) == 1 {
		t.Num.Shape = nil
	}
	return t
}

// listOf gives the list of the numbers that are so written. An _ alone is a rank.
func listOf(fields []string) api.Array {
	list := api.Array{Shape: []int{len(fields)}, Atoms: make([]int64, len(fields))}
	for i, field := range fields {
		list.Atoms[i] = numberOf(field)
	}
	return list
}

// numberOf gives the number that is so written; word.Cut has seen that it is one.
func numberOf(field string) int64 {
	if field == "_" {
		return api.Inf
	}
	digits, below := strings.CutPrefix(field, "_")
	if below {
		digits = "-" + digits
	}
	n, _ := strconv.ParseInt(digits, 10, 64)
	return n
}

// bracket reads what stands between brackets: a phrase, or the branches of a gerund.
func (r *reader) bracket() api.Term {
	us := r.units()
	if r.nextIs("`") {
		// Also where more than one unit stands ahead of it, the one beside it must be a verb: it is told first.
		last := us[len(us)-1].verb()
		if len(us) == 1 {
			return r.branches(last)
		}
	}
	return r.whole(us)
}

// branches reads the branches of a gerund behind the first one.
func (r *reader) branches(first api.Term) api.Term {
	g := of(gerund, first)
	for r.skip("`") {
		g.Kids = append(g.Kids, r.unit().verb())
	}
	return g
}

// pick reads what stands between pick. and end. .
func (r *reader) pick() api.Term {
	t := of(api.KPick, r.nounPhrase())
	r.must("do.")
	t.Kids = append(t.Kids, r.nounPhrase())
	for r.skip("or.") {
		t.Kids = append(t.Kids, r.nounPhrase())
	}
	return t
}
