package parse

import (
	"abacus/api"
)

// dice are numbers that look thrown, the same ones each time.
type dice uint64

func (d *dice) throw(n int) int {
	*d = *d*6364136223846793005 + 1442695040888963407
	return int(uint64(*d) >> 33 % uint64(n))
}

// thrower throws terms that may be, of all kinds.
type thrower struct {
	dice
	noX bool // within a definition of one argument
}

func (d *thrower) number() api.Term {
	terms := []api.Term{num(1), num(2), num(-1), num(1, 2), num(64), num(0, -7, api.Min), num(api.Max)}
	return clone(terms[d.throw(len(terms))])
}

func (d *thrower) operand() api.Term {
	if d.throw(4) == 0 {
		return []api.Term{noun("a"), noun("b2")}[d.throw(2)]
	}
	return d.number()
}

func (d *thrower) verbs(n, depth int) []api.Term {
	var out []api.Term
	for range n {
		out = append(out, d.verb(depth))
	}
	return out
}

// verb throws a verb that is at most so deep, if that is 2 or more.
func (d *thrower) verb(depth int) api.Term {
	if depth <= 2 {
		return []api.Term{prim("+"), prim("i."), prim("["), prim(">:"), verb("A"), verb("B2"), of(api.VConst, d.operand()), of(api.VConst, d.operand())}[d.throw(8)]
	}
	u := func() api.Term { return d.verb(depth - 1 - d.throw(2)) }
	switch d.throw(12) {
	case 0:
		return of(api.VInsert+d.throw(4), u())
	case 1, 2:
		return of(api.VAtop+d.throw(11), u(), u())
	case 3:
		return of(api.VBondL, d.operand(), u())
	case 4:
		return of(api.VBondR, u(), d.operand())
	case 5:
		return of(api.VPow, u(), d.operand())
	case 6:
		return d.ranked(u())
	case 7:
		return of(api.VAgenda, d.verbs(2+d.throw(3), depth-1)...)
	case 8:
		return d.definition(depth)
	case 9, 10:
		return fork(u(), u(), u())
	}
	return of([]int{api.VHook, api.VCap}[d.throw(2)], u(), u())
}

func (d *thrower) ranked(u api.Term) api.Term {
	ranks := make([]int64, 1+d.throw(3))
	for i := range ranks {
		ranks[i] = []int64{64, 0, 1, 2, -1, -8, 8}[d.throw(7)]
	}
	return ranked(u, ranks...)
}

func (d *thrower) definition(depth int) api.Term {
	outer := d.noX
	t := api.Term{Kind: api.VDef, N: 1 + d.throw(2)}
	d.noX = t.N == 1
	t.Kids = []api.Term{d.body(depth - 1)}
	d.noX = outer
	return t
}

func (d *thrower) body(depth int) api.Term {
	t := body()
	for range d.throw(3) {
		if depth > 2 {
			t.Kids = append(t.Kids, d.sentence(depth-1))
		}
	}
	return t
}

func (d *thrower) name() string {
	if d.noX {
		return []string{"y", "a"}[d.throw(2)]
	}
	return []string{"x", "y", "a"}[d.throw(3)]
}

func (d *thrower) sentence(depth int) api.Term {
	n := d.noun(depth - 1)
	switch d.throw(6) {
	case 0, 1:
		return set(d.name(), n)
	case 2:
		return of(api.SIf, n, d.body(depth-1), d.body(depth-1))
	case 3:
		return of(api.SWhile, n, d.body(depth-1))
	}
	return say(n)
}

// noun throws a noun that is at most so deep, if that is 1 or more.
func (d *thrower) noun(depth int) api.Term {
	if depth <= 2 || d.throw(5) == 0 {
		if d.throw(2) == 0 {
			return noun(d.name())
		}
		return d.number()
	}
	n := func() api.Term { return d.noun(depth - 1 - d.throw(2)) }
	switch d.throw(5) {
	case 0, 1:
		return mon(d.verb(depth-1), n())
	case 2, 3:
		return dy(d.verb(depth-1), n(), n())
	}
	return of(api.KPick, n(), n(), n())
}

// thrown throws a verb or a noun that is not too great.
func (d *thrower) thrown() api.Term {
	for {
		depth := 2 + d.throw(7)
		t := d.noun
		if d.throw(2) == 0 {
			t = d.verb
		}
		if a := t(depth); nodes(a) <= 1000 {
			return a
		}
	}
}

func nodes(t api.Term) int {
	n := 1
	for _, kid := range t.Kids {
		n += nodes(kid)
	}
	return n
}
