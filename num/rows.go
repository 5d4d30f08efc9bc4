package num

import (
	"math/bits"

	"abacus/api"
)

const (
	// mostFactor is the greatest y whose product of 1 to y has 64 bits.
	mostFactor = 20
	// mostPower is the greatest y at which some x other than 0, 1 and -1 has a power of 64 bits: (-2)^63.
	mostPower = 63
	// mostChosen is how many things can be chosen (or left out) at most: 33 of 66 fits, and with more the least is 34 of 68, which does not.
	mostChosen = 33
)

// checked tells a sum that does not fit as an error.
func checked(n int64, ok bool) (int64, api.Errno) {
	if !ok {
		return 0, api.ErrOver
	}
	return n, api.OK
}

// unsigned tells a number without a sign as one with a sign.
func unsigned(n uint64) (int64, api.Errno) {
	if n > api.Max {
		return 0, api.ErrOver
	}
	return int64(n), api.OK
}

// size is n without its sign; of -2^63, too, since the wrap-round of 64 bits makes it 2^63.
func size(n int64) uint64 {
	if n < 0 {
		return -uint64(n)
	}
	return uint64(n)
}

func sign(n int64) int64 {
	if n < 0 {
		return -1
	}
	return truth(n > 0)
}

func truth(b bool) int64 {
	if b {
		return 1
	}
	return 0
}

func odd(n int64) bool { return n%2 != 0 }

func half(y int64) (int64, api.Errno) {
	if odd(y) {
		return 0, api.ErrDomain
	}
	return y / 2, api.OK
}

func factorial(y int64) (int64, api.Errno) {
	if y < 0 {
		return 0, api.ErrDomain
	}
	if y > mostFactor {
		return 0, api.ErrOver
	}
	product := int64(1)
	for i := int64(2); i <= y; i++ {
		product *= i
	}
	return product, api.OK
}

// quotient rounds down, where Go's own division rounds towards 0.
func quotient(x, y int64) (int64, api.Errno) {
	if y == 0 {
		return 0, api.ErrDomain
	}
	if x == api.Min && y == -1 {
		return 0, api.ErrOver
	}
	q := x / y
	if x%y != 0 && (x < 0) != (y < 0) {
		q--
	}
	return q, api.OK
}

// residue is of x's sign, where Go's own remainder is of y's.
func residue(x, y int64) int64 {
	if x == 0 {
		return y
	}
	r := y % x
	if r != 0 && (r < 0) != (x < 0) {
		r += x
	}
	return r
}

func divisor(a, b uint64) uint64 {
	for b != 0 {
		a, b = b, a%b
	}
	return a
}

func multiple(x, y int64) (int64, api.Errno) {
	if x == 0 || y == 0 {
		return 0, api.OK
	}
	a, b := size(x), size(y)
	over, product := bits.Mul64(a/divisor(a, b), b)
	if over != 0 {
		return 0, api.ErrOver
	}
	return unsigned(product)
}

func isTruth(n int64) bool { return n == 0 || n == 1 }

func nor(x, y int64) (int64, api.Errno) {
	if !isTruth(x) || !isTruth(y) {
		return 0, api.ErrDomain
	}
	return truth(x == 0 && y == 0), api.OK
}

func nand(x, y int64) (int64, api.Errno) {
	if !isTruth(x) || !isTruth(y) {
		return 0, api.ErrDomain
	}
	return truth(x == 0 || y == 0), api.OK
}

func power(x, y int64) (int64, api.Errno) {
	switch {
	case x == 1:
		return 1, api.OK
	case x == -1:
		return 1 - 2*truth(odd(y)), api.OK
	case y < 0:
		return 0, api.ErrDomain
	case x == 0:
		return truth(y == 0), api.OK
	case y > mostPower:
		return 0, api.ErrOver
	}
	return repeated(x, y)
}

// repeated multiplies one by one. The product's size only grows, so the first one that does not fit settles it.
func repeated(x, y int64) (int64, api.Errno) {
	product := int64(1)
	for range y {
		next, ok := Mul(product, x)
		if !ok {
			return 0, api.ErrOver
		}
		product = next
	}
	return product, api.OK
}

// choose tells in how many ways x of y things can be chosen.
func choose(x, y int64) (int64, api.Errno) {
	if y < 0 {
		return 0, api.ErrDomain
	}
	if x < 0 || x > y {
		return 0, api.OK
	}
	few := min(x, y-x)
	if few > mostChosen {
		return 0, api.ErrOver
	}
	return chooseFew(uint64(few), uint64(y))
}

// chooseFew goes from i-1 of n-1 to i of n, up to few of all. Each product has room in 128 bits, i divides it, and the number of ways only grows, so the first one that does not fit settles it.
func chooseFew(few, all uint64) (int64, api.Errno) {
	ways := uint64(1)
	for i := uint64(1); i <= few; i++ {
		high, low := bits.Mul64(ways, all-few+i)
		// Div64 panics where its quotient has more than 64 bits.
		if high >= i {
			return 0, api.ErrOver
		}
		ways, _ = bits.Div64(high, low, i)
		if ways > api.Max {
			return 0, api.ErrOver
		}
	}
	return int64(ways), api.OK
}
