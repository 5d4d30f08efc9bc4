package prim

import (
	"abacus/api"
	"abacus/atom"
	"abacus/digit"
	"abacus/mold"
	"abacus/seek"
)

// row is a primitive's row of the catalogue. What it does to cells is its package's Monad and Dyad; a valence that it lacks is nil.
type row struct {
	op          int
	spelling    string
	monad       func(op int, y api.Array) (api.Array, api.Errno)
	rank        int // the monad's
	dyad        func(op int, x, y api.Array) (api.Array, api.Errno)
	left, right int // the dyad's ranks
	identity    int64
	has         bool // there is an identity
	commutes    bool
}

// one is the row's work on a cell.
func (r row) one(y api.Array) (api.Array, api.Errno) { return r.monad(r.op, y) }

// two is the row's work on a pair of cells.
func (r row) two(x, y api.Array) (api.Array, api.Errno) { return r.dyad(r.op, x, y) }

// told is the row without its work.
func (r row) told() api.Prim {
	return api.Prim{
		Spelling: r.spelling,
		Monad:    r.monad != nil,
		Dyad:     r.dyad != nil,
		Ranks:    [3]int{r.rank, r.left, r.right},
		Identity: r.identity,
		Has:      r.has,
		Commutes: r.commutes,
	}
}

// rows are in the order of their ops, the first one's being 1; ranks that are not written are 0.
func rows() [api.Prims]row {
	const inf = api.Inf
	return [api.Prims]row{
		{op: api.PAdd, spelling: "+", monad: atom.Monad, dyad: atom.Dyad, has: true, identity: 0, commutes: true},
		{op: api.PSub, spelling: "-", monad: atom.Monad, dyad: atom.Dyad, has: true, identity: 0},
		{op: api.PMul, spelling: "*", monad: atom.Monad, dyad: atom.Dyad, has: true, identity: 1, commutes: true},
		{op: api.PDiv, spelling: "%", dyad: atom.Dyad, has: true, identity: 1},
		{op: api.PRes, spelling: "|", monad: atom.Monad, dyad: atom.Dyad, has: true, identity: 0},
		{op: api.PMin, spelling: "<.", monad: atom.Monad, dyad: atom.Dyad, has: true, identity: api.Max, commutes: true},
		{op: api.PMax, spelling: ">.", monad: atom.Monad, dyad: atom.Dyad, has: true, identity: api.Min, commutes: true},
		{op: api.PLess, spelling: "<", dyad: atom.Dyad, has: true, identity: 0},
		{op: api.PMore, spelling: ">", dyad: atom.Dyad, has: true, identity: 0},
		{op: api.PEq, spelling: "=", monad: seek.Monad, rank: inf, dyad: atom.Dyad, has: true, identity: 1, commutes: true},
		{op: api.PNe, spelling: "~:", monad: seek.Monad, rank: inf, dyad: atom.Dyad, has: true, identity: 0, commutes: true},
		{op: api.PLe, spelling: "<:", monad: atom.Monad, dyad: atom.Dyad, has: true, identity: 1},
		{op: api.PGe, spelling: ">:", monad: atom.Monad, dyad: atom.Dyad, has: true, identity: 1},
		{op: api.PGcd, spelling: "+.", dyad: atom.Dyad, has: true, identity: 0, commutes: true},
		{op: api.PLcm, spelling: "*.", dyad: atom.Dyad, has: true, identity: 1, commutes: true},
		{op: api.PNor, spelling: "+:", monad: atom.Monad, dyad: atom.Dyad, commutes: true},
		{op: api.PNand, spelling: "*:", monad: atom.Monad, dyad: atom.Dyad, commutes: true},
		{op: api.PNot, spelling: "-.", monad: atom.Monad, dyad: seek.Dyad, left: inf, right: inf},
		{op: api.PMatch, spelling: "-:", monad: atom.Monad, dyad: seek.Dyad, left: inf, right: inf, commutes: true},
		{op: api.PPow, spelling: "^", dyad: atom.Dyad, has: true, identity: 1},
		{op: api.PFact, spelling: "!", monad: atom.Monad, dyad: atom.Dyad, has: true, identity: 1},
		{op: api.PTally, spelling: "#", monad: mold.Monad, rank: inf, dyad: digit.Dyad, left: 1, right: inf},
		{op: api.PShape, spelling: "$", monad: mold.Monad, rank: inf, dyad: mold.Dyad, left: 1, right: inf},
		{op: api.PRavel, spelling: ",", monad: mold.Monad, rank: inf, dyad: mold.Dyad, left: inf, right: inf},
		{op: api.PStitch, spelling: ",.", monad: mold.Monad, rank: inf, dyad: mold.Dyad, left: inf, right: inf},
		{op: api.PItem, spelling: ",:", monad: mold.Monad, rank: inf, dyad: mold.Dyad, left: inf, right: inf},
		{op: api.PFrom, spelling: "{", dyad: seek.Dyad, left: 0, right: inf},
		{op: api.PTake, spelling: "{.", monad: mold.Monad, rank: inf, dyad: mold.Dyad, left: 1, right: inf},
		{op: api.PDrop, spelling: "}.", monad: mold.Monad, rank: inf, dyad: mold.Dyad, left: 1, right: inf},
		{op: api.PTail, spelling: "{:", monad: mold.Monad, rank: inf},
		{op: api.PCurt, spelling: "}:", monad: mold.Monad, rank: inf},
		{op: api.PRev, spelling: "|.", monad: mold.Monad, rank: inf, dyad: mold.Dyad, left: 1, right: inf},
		{op: api.PTran, spelling: "|:", monad: mold.Monad, rank: inf, dyad: mold.Dyad, left: 1, right: inf},
		{op: api.PIota, spelling: "i.", monad: digit.Monad, rank: 1, dyad: seek.Dyad, left: inf, right: inf},
		{op: api.PIn, spelling: "e.", dyad: seek.Dyad, left: inf, right: inf},
		{op: api.PNub, spelling: "~.", monad: seek.Monad, rank: inf},
		{op: api.PUp, spelling: "/:", monad: seek.Monad, rank: inf, dyad: seek.Dyad, left: inf, right: inf},
		{op: api.PDown, spelling: "\\:", monad: seek.Monad, rank: inf, dyad: seek.Dyad, left: inf, right: inf},
		{op: api.PBase, spelling: "#.", monad: digit.Monad, rank: 1, dyad: digit.Dyad, left: 1, right: 1},
		{op: api.PAnti, spelling: "#:", monad: digit.Monad, rank: inf, dyad: digit.Dyad, left: 1, right: 0},
		{op: api.PLeft, spelling: "[", monad: mold.Monad, rank: inf, dyad: mold.Dyad, left: inf, right: inf},
		{op: api.PRight, spelling: "]", monad: mold.Monad, rank: inf, dyad: mold.Dyad, left: inf, right: inf},
		{op: api.PWhere, spelling: "I.", monad: digit.Monad, rank: 1},
	}
}

func rowOf(op int) (row, api.Errno) {
	if op < 1 || op > api.Prims {
		return row{}, api.ErrArg
	}
	all := rows()
	return all[op-1], api.OK
}

// spellings leads from each spelling to its op.
func spellings() map[string]int {
	out := make(map[string]int, api.Prims)
	for _, r := range rows() {
		out[r.spelling] = r.op
	}
	return out
}
