// Package num: numbers of 64 bits, checked: see doc/01-num.md.
package num

import "abacus/api"

// Int is the types that sums are checked of.
type Int interface{ ~int32 | ~int64 }

// Add gives the sum; false: it does not fit.
func Add[W Int](a, b W) (W, bool) {
	sum := a + b
	if (sum > a) != (b > 0) {
		return 0, false
	}
	return sum, true
}

// Sub gives the difference; false: it does not fit.
func Sub[W Int](a, b W) (W, bool) {
	difference := a - b
	if (difference < a) != (b > 0) {
		return 0, false
	}
	return difference, true
}

// Mul gives the product; false: it does not fit.
func Mul[W Int](a, b W) (W, bool) {
	if a == 0 {
		return 0, true
	}
	// The check below divides by a: of -1 the quotient itself may wrap.
	if a == -1 {
		return Sub(0, b)
	}
	product := a * b
	if product/a != b {
		return 0, false
	}
	return product, true
}

// Monad does a verb on one number.
func Monad(op int, y int64) (int64, api.Errno) {
	switch op {
	case api.PAdd, api.PMin, api.PMax:
		return y, api.OK
	case api.PSub:
		return checked(Sub(0, y))
	case api.PMul:
		return sign(y), api.OK
	case api.PRes:
		return unsigned(size(y))
	case api.PLe:
		return checked(Sub(y, 1))
	case api.PGe:
		return checked(Add(y, 1))
	case api.PNor:
		return checked(Add(y, y))
	case api.PNand:
		return checked(Mul(y, y))
	case api.PNot:
		return checked(Sub(1, y))
	case api.PMatch:
		return half(y)
	case api.PFact:
		return factorial(y)
	case api.PDiv, api.PLess, api.PMore, api.PEq, api.PNe, api.PGcd, api.PLcm, api.PPow:
		return 0, api.ErrValence
	}
	return 0, api.ErrArg
}

// Dyad does a verb on two numbers.
func Dyad(op int, x, y int64) (int64, api.Errno) {
	switch op {
	case api.PAdd:
		return checked(Add(x, y))
	case api.PSub:
		return checked(Sub(x, y))
	case api.PMul:
		return checked(Mul(x, y))
	case api.PDiv:
		return quotient(x, y)
	case api.PRes:
		return residue(x, y), api.OK
	case api.PMin:
		return min(x, y), api.OK
	case api.PMax:
		return max(x, y), api.OK
	case api.PLess:
		return truth(x < y), api.OK
	case api.PMore:
		return truth(x > y), api.OK
	case api.PEq:
		return truth(x == y), api.OK
	case api.PNe:
		return truth(x != y), api.OK
	case api.PLe:
		return truth(x <= y), api.OK
	case api.PGe:
		return truth(x >= y), api.OK
	case api.PGcd:
		return unsigned(divisor(size(x), size(y)))
	case api.PLcm:
		return multiple(x, y)
	case api.PNor:
		return nor(x, y)
	case api.PNand:
		return nand(x, y)
	case api.PPow:
		return power(x, y)
	case api.PFact:
		return choose(x, y)
	case api.PNot, api.PMatch:
		return 0, api.ErrValence
	}
	return 0, api.ErrArg
}
