package num

import (
	"math"
	"sync"
	"testing"
	"time"

	"abacus/api"
)

const (
	least = math.MinInt64
	most  = math.MaxInt64
)

// monadCase and dyadCase are a call and what it must answer.
type monadCase struct {
	op   int
	y, n int64
	e    api.Errno
}

type dyadCase struct {
	op      int
	x, y, n int64
	e       api.Errno
}

func checkMonads(t *testing.T, promise string, cases []monadCase) {
	t.Helper()
	for _, c := range cases {
		if n, e := Monad(c.op, c.y); n != c.n || e != c.e {
			t.Errorf("%s: Monad(%d, %d): %d, %v; want %d, %v", promise, c.op, c.y, n, e, c.n, c.e)
		}
	}
}

func checkDyads(t *testing.T, promise string, cases []dyadCase) {
	t.Helper()
	for _, c := range cases {
		if n, e := Dyad(c.op, c.x, c.y); n != c.n || e != c.e {
			t.Errorf("%s: Dyad(%d, %d, %d): %d, %v; want %d, %v", promise, c.op, c.x, c.y, n, e, c.n, c.e)
		}
	}
}

// ops are all primitives, and numbers that are none.
func ops() []int {
	out := []int{0, -1, api.Prims + 1, 1000, math.MinInt, math.MaxInt}
	for op := 1; op <= api.Prims; op++ {
		out = append(out, op)
	}
	return out
}

// numbers are those near 0, those at which powers and ways to choose leave 64 bits, and the edges.
func numbers() []int64 {
	out := edges(64)
	for n := int64(-12); n <= 70; n++ {
		out = append(out, n)
	}
	return append(out, 1<<21, -1<<21, 2097151, 3037000499, 3037000500, -3037000500, 4294967295, 4294967296, 4294967297, 1<<62+1, 720720, 1000000007, -998244353)
}

func TestMonadExamples(t *testing.T) {
	checkMonads(t, "P1.2", []monadCase{
		{api.PSub, least, 0, api.ErrOver},
		{api.PRes, least, 0, api.ErrOver},
		{api.PLe, least, 0, api.ErrOver},
		{api.PNot, least + 2, most, api.OK},
		{api.PNot, least + 1, 0, api.ErrOver},
		{api.PMatch, -6, -3, api.OK},
		{api.PMatch, 7, 0, api.ErrDomain},
		{api.PFact, 20, 2432902008176640000, api.OK},
		{api.PFact, 21, 0, api.ErrOver},
		{api.PFact, -1, 0, api.ErrDomain},
		{api.PDiv, 5, 0, api.ErrValence},
		{api.PTally, 5, 0, api.ErrArg},
		{0, 5, 0, api.ErrArg},
	})
}

func TestDyadExamples(t *testing.T) {
	checkDyads(t, "P1.3", []dyadCase{
		{api.PDiv, -7, 2, -4, api.OK},
		{api.PDiv, 7, -2, -4, api.OK},
		{api.PDiv, 7, 0, 0, api.ErrDomain},
		{api.PDiv, least, -1, 0, api.ErrOver},
		{api.PRes, 3, -7, 2, api.OK},
		{api.PRes, -3, 7, -2, api.OK},
		{api.PRes, 0, -7, -7, api.OK},
		{api.PRes, -1, least, 0, api.OK},
		{api.PGcd, -12, 18, 6, api.OK},
		{api.PGcd, 0, 0, 0, api.OK},
		{api.PGcd, least, 0, 0, api.ErrOver},
		{api.PLcm, -4, 6, 12, api.OK},
		{api.PLcm, 0, least, 0, api.OK},
		{api.PLcm, 1 << 62, 3, 0, api.ErrOver},
		{api.PPow, -2, 63, least, api.OK},
		{api.PPow, 2, 63, 0, api.ErrOver},
		{api.PPow, 0, 0, 1, api.OK},
		{api.PPow, -1, -3, -1, api.OK},
		{api.PPow, 2, -1, 0, api.ErrDomain},
		{api.PPow, 1, least, 1, api.OK},
		{api.PFact, 2, 5, 10, api.OK},
		{api.PFact, -1, 5, 0, api.OK},
		{api.PFact, 6, 5, 0, api.OK},
		{api.PFact, 2, -1, 0, api.ErrDomain},
		{api.PFact, 2, 1 << 62, 0, api.ErrOver},
		{api.PNor, 0, 0, 1, api.OK},
		{api.PNor, 2, 0, 0, api.ErrDomain},
	})
}

func TestMonadEdges(t *testing.T) {
	checkMonads(t, "P1.2", []monadCase{
		{api.PAdd, least, least, api.OK}, {api.PMin, least, least, api.OK}, {api.PMax, most, most, api.OK},
		{api.PSub, most, -most, api.OK}, {api.PMul, least, -1, api.OK}, {api.PMul, 0, 0, api.OK}, {api.PMul, most, 1, api.OK},
		{api.PRes, least + 1, most, api.OK}, {api.PLe, most, most - 1, api.OK}, {api.PGe, most, 0, api.ErrOver}, {api.PGe, least, least + 1, api.OK},
		{api.PNor, -1 << 62, least, api.OK}, {api.PNor, -1<<62 - 1, 0, api.ErrOver}, {api.PNor, 1 << 62, 0, api.ErrOver},
		{api.PNand, 3037000499, 9223372030926249001, api.OK}, {api.PNand, -3037000500, 0, api.ErrOver}, {api.PNand, least, 0, api.ErrOver},
		{api.PNot, least, 0, api.ErrOver}, {api.PNot, most, least + 2, api.OK},
		{api.PMatch, least, -1 << 62, api.OK}, {api.PMatch, most, 0, api.ErrDomain}, {api.PMatch, -7, 0, api.ErrDomain},
		{api.PFact, 0, 1, api.OK}, {api.PFact, 1, 1, api.OK}, {api.PFact, least, 0, api.ErrDomain}, {api.PFact, most, 0, api.ErrOver},
	})
}

func TestDyadEdges(t *testing.T) {
	checkDyads(t, "P1.3", []dyadCase{
		{api.PDiv, 7, 2, 3, api.OK}, {api.PDiv, -7, -2, 3, api.OK}, {api.PDiv, -6, 2, -3, api.OK}, {api.PDiv, 6, -2, -3, api.OK},
		{api.PDiv, 0, 0, 0, api.ErrDomain}, {api.PDiv, least, 1, least, api.OK}, {api.PDiv, most, -1, -most, api.OK}, {api.PDiv, most, least, -1, api.OK}, {api.PDiv, least, most, -2, api.OK},
		{api.PRes, 3, 7, 1, api.OK}, {api.PRes, -3, -7, -1, api.OK}, {api.PRes, 3, -6, 0, api.OK}, {api.PRes, 0, least, least, api.OK}, {api.PRes, least, most, -1, api.OK}, {api.PRes, most, least, most - 1, api.OK}, {api.PRes, least, least, 0, api.OK},
		{api.PGcd, 0, least, 0, api.ErrOver}, {api.PGcd, least, least, 0, api.ErrOver}, {api.PGcd, least, 6, 2, api.OK}, {api.PGcd, 0, -5, 5, api.OK},
		{api.PLcm, least, 0, 0, api.OK}, {api.PLcm, least, 1, 0, api.ErrOver}, {api.PLcm, most, -most, most, api.OK}, {api.PLcm, 1 << 62, -1 << 61, 1 << 62, api.OK}, {api.PLcm, most, most - 1, 0, api.ErrOver},
		{api.PNor, 0, 1, 0, api.OK}, {api.PNor, 1, 1, 0, api.OK}, {api.PNor, 0, -1, 0, api.ErrDomain},
		{api.PNand, 0, 0, 1, api.OK}, {api.PNand, 1, 0, 1, api.OK}, {api.PNand, 1, 1, 0, api.OK}, {api.PNand, 1, 2, 0, api.ErrDomain}, {api.PNand, least, 0, 0, api.ErrDomain},
		{api.PPow, 0, -1, 0, api.ErrDomain}, {api.PPow, 0, most, 0, api.OK}, {api.PPow, -1, most, -1, api.OK}, {api.PPow, -1, least, 1, api.OK}, {api.PPow, least, 1, least, api.OK}, {api.PPow, least, 0, 1, api.OK}, {api.PPow, least, least, 0, api.ErrDomain}, {api.PPow, -2, 64, 0, api.ErrOver}, {api.PPow, -8, 21, least, api.OK}, {api.PPow, 3, 39, 4052555153018976267, api.OK}, {api.PPow, 3, 40, 0, api.ErrOver},
		{api.PFact, 0, 0, 1, api.OK}, {api.PFact, 0, most, 1, api.OK}, {api.PFact, most, most, 1, api.OK}, {api.PFact, most - 1, most, most, api.OK}, {api.PFact, most, least, 0, api.ErrDomain}, {api.PFact, least, least, 0, api.ErrDomain}, {api.PFact, least, most, 0, api.OK}, {api.PFact, most, 0, 0, api.OK},
	})
}

// TestWrongRows: a number that is none of the table's, or a row with nothing for that valence, whatever the numbers beside it are.
func TestWrongRows(t *testing.T) {
	for _, n := range []int64{0, 1, -1, 5, least, most} {
		for _, op := range ops() {
			if op >= api.PAdd && op <= api.PFact {
				continue
			}
			checkMonads(t, "P1.2", []monadCase{{op, n, 0, api.ErrArg}})
			checkDyads(t, "P1.3", []dyadCase{{op, n, n, 0, api.ErrArg}})
		}
		for _, op := range []int{api.PDiv, api.PLess, api.PMore, api.PEq, api.PNe, api.PGcd, api.PLcm, api.PPow} {
			checkMonads(t, "P1.2", []monadCase{{op, n, 0, api.ErrValence}})
		}
		for _, op := range []int{api.PNot, api.PMatch} {
			checkDyads(t, "P1.3", []dyadCase{{op, n, n, 0, api.ErrValence}})
		}
	}
}

// TestRows holds every row against the same done without a bound.
func TestRows(t *testing.T) {
	for _, op := range ops() {
		for _, y := range numbers() {
			n, e := exactMonad(op, y)
			checkMonads(t, "P1.2, P1.4", []monadCase{{op, y, n, e}})
			for _, x := range numbers() {
				n, e := exactDyad(op, x, y)
				checkDyads(t, "P1.3, P1.4", []dyadCase{{op, x, y, n, e}})
			}
		}
	}
}

// TestOnTheWay: a product on the way is too great, the answer is not.
func TestOnTheWay(t *testing.T) {
	checkDyads(t, "P1.4", []dyadCase{
		{api.PFact, 33, 66, 7219428434016265740, api.OK},
		{api.PFact, 33, 67, 0, api.ErrOver},
		{api.PFact, 34, 67, 0, api.ErrOver},
		{api.PFact, 34, 68, 0, api.ErrOver},
		{api.PFact, 2, 4294967296, 9223372034707292160, api.OK},
		{api.PFact, 4294967294, 4294967296, 9223372034707292160, api.OK},
		{api.PFact, 2, 4294967297, 0, api.ErrOver},
		{api.PFact, 1 << 62, most, 0, api.ErrOver},
		{api.PLcm, 1 << 62, 1 << 61, 1 << 62, api.OK},
		{api.PLcm, 6074001000, 3037000500, 6074001000, api.OK},
		{api.PRes, -1, least, 0, api.OK},
		{api.PRes, most, least, most - 1, api.OK},
	})
	for y := int64(0); y <= 80; y++ {
		for x := int64(-1); x <= y+1; x++ {
			n, e := exactChoose(x, y)
			checkDyads(t, "P1.4", []dyadCase{{api.PFact, x, y, n, e}})
		}
	}
}

// TestChooseAtTheEdge: where the ways to choose x things leave 64 bits, and 65, and so on (there a quotient on the way leaves 64 bits, too).
func TestChooseAtTheEdge(t *testing.T) {
	for x := int64(2); x <= 33; x++ {
		fits, over := x, int64(most)
		for over-fits > 1 {
			middle := fits + (over-fits)/2
			if _, e := exactChoose(x, middle); e == api.OK {
				fits = middle
			} else {
				over = middle
			}
		}
		for k := int64(0); k <= 40; k++ {
			for _, y := range []int64{over - 2 + k, over + over/32*k} {
				n, e := exactChoose(x, y)
				checkDyads(t, "P1.4", []dyadCase{{api.PFact, x, y, n, e}, {api.PFact, y - x, y, n, e}})
			}
		}
	}
}

// TestSoonDone: were a call's work to grow with its numbers, these would not end for years. (The two beside each other in Fibonacci's row make a greatest divisor as slow as it can be.)
func TestSoonDone(t *testing.T) {
	great := []int64{least, least + 1, -1 << 62, 1 << 61, 1 << 62, most / 2, most - 1, most, 4660046610375530309, 7540113804746346429}
	done := make(chan bool)
	go func() {
		defer close(done)
		for _, op := range ops() {
			for _, y := range great {
				Monad(op, y)
				for _, x := range great {
					Dyad(op, x, y)
				}
				for x := int64(-3); x <= 70; x++ {
					Dyad(op, x, y)
					Dyad(op, y, x)
					Dyad(op, y-max(x, 0), y)
				}
			}
		}
	}()
	select {
	case <-done:
	case <-time.After(time.Minute):
		t.Fatal("P1.4: a call goes on and on")
	}
}

// answers tells what all calls answer, from the given end on, at that call's place.
func answers(forwards bool) []dyadCase {
	var calls []dyadCase
	for _, op := range ops() {
		for _, x := range edges(64) {
			for _, y := range []int64{least, -3, 0, 2, 21, 63, most} {
				calls = append(calls, dyadCase{op: op, x: x, y: y})
			}
		}
	}
	out := make([]dyadCase, 2*len(calls))
	for k := range calls {
		i := k
		if !forwards {
			i = len(calls) - 1 - k
		}
		c := calls[i]
		c.n, c.e = Dyad(c.op, c.x, c.y)
		out[2*i] = c
		c.n, c.e = Monad(c.op, c.x)
		out[2*i+1] = c
	}
	return out
}

// TestArgumentsAlone: the same answers in whatever order the calls come, and from several goroutines at a time.
func TestArgumentsAlone(t *testing.T) {
	want := answers(true)
	got := make([][]dyadCase, 8)
	var all sync.WaitGroup
	for w := range got {
		all.Go(func() { got[w] = answers(w%2 == 0) })
	}
	all.Wait()
	for w := range got {
		for i := range want {
			if got[w][i] != want[i] {
				t.Fatalf("P1.5: %+v; at first %+v", got[w][i], want[i])
			}
		}
	}
}
