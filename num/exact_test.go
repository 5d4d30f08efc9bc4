package num

import (
	"math/big"

	"abacus/api"
)

// The table's rows once more, done without a bound and in other ways than the program's: what it answers is held against them.

func whole(n int64) *big.Int { return big.NewInt(n) }

// told is what a row's exact number becomes.
func told(n *big.Int, e api.Errno) (int64, api.Errno) {
	if e != api.OK {
		return 0, e
	}
	if !n.IsInt64() {
		return 0, api.ErrOver
	}
	return n.Int64(), api.OK
}

func exactMonad(op int, y int64) (int64, api.Errno) {
	b := whole(y)
	switch op {
	case api.PAdd, api.PMin, api.PMax:
		return y, api.OK
	case api.PSub:
		return told(new(big.Int).Neg(b), api.OK)
	case api.PMul:
		return int64(b.Sign()), api.OK
	case api.PRes:
		return told(new(big.Int).Abs(b), api.OK)
	case api.PLe:
		return told(new(big.Int).Sub(b, whole(1)), api.OK)
	case api.PGe:
		return told(new(big.Int).Add(b, whole(1)), api.OK)
	case api.PNor:
		return told(new(big.Int).Mul(b, whole(2)), api.OK)
	case api.PNand:
		return told(new(big.Int).Mul(b, b), api.OK)
	case api.PNot:
		return told(new(big.Int).Sub(whole(1), b), api.OK)
	case api.PMatch:
		if b.Bit(0) == 1 {
			return 0, api.ErrDomain
		}
		return told(new(big.Int).Rsh(b, 1), api.OK)
	case api.PFact:
		return exactFactorial(y)
	case api.PDiv, api.PLess, api.PMore, api.PEq, api.PNe, api.PGcd, api.PLcm, api.PPow:
		return 0, api.ErrValence
	}
	return 0, api.ErrArg
}

func exactFactorial(y int64) (int64, api.Errno) {
	if y < 0 {
		return 0, api.ErrDomain
	}
	return told(new(big.Int).MulRange(1, min(y, 100)), api.OK)
}

func exactDyad(op int, x, y int64) (int64, api.Errno) {
	a, b := whole(x), whole(y)
	switch op {
	case api.PAdd:
		return told(new(big.Int).Add(a, b), api.OK)
	case api.PSub:
		return told(new(big.Int).Sub(a, b), api.OK)
	case api.PMul:
		return told(new(big.Int).Mul(a, b), api.OK)
	case api.PDiv:
		if y == 0 {
			return 0, api.ErrDomain
		}
		return told(roundedDown(a, b), api.OK)
	case api.PRes:
		if x == 0 {
			return y, api.OK
		}
		return told(new(big.Int).Sub(b, new(big.Int).Mul(a, roundedDown(b, a))), api.OK)
	case api.PGcd:
		return told(exactGcd(a, b), api.OK)
	case api.PLcm:
		return told(exactLcm(a, b), api.OK)
	case api.PPow:
		return exactPower(x, y)
	case api.PFact:
		return exactChoose(x, y)
	case api.PNot, api.PMatch:
		return 0, api.ErrValence
	}
	return exactCompared(op, a.Cmp(b), x, y)
}

// exactCompared does the rows that hang on the order of x and y, and on truth values; order is as of Cmp.
func exactCompared(op, order int, x, y int64) (int64, api.Errno) {
	bit := map[bool]int64{true: 1}
	switch op {
	case api.PMin:
		return map[int]int64{-1: x, 0: x, 1: y}[order], api.OK
	case api.PMax:
		return map[int]int64{-1: y, 0: y, 1: x}[order], api.OK
	case api.PLess:
		return bit[order == -1], api.OK
	case api.PMore:
		return bit[order == 1], api.OK
	case api.PEq:
		return bit[order == 0], api.OK
	case api.PNe:
		return bit[order != 0], api.OK
	case api.PLe:
		return bit[order != 1], api.OK
	case api.PGe:
		return bit[order != -1], api.OK
	case api.PNor, api.PNand:
		if uint64(x) > 1 || uint64(y) > 1 {
			return 0, api.ErrDomain
		}
		if op == api.PNor {
			return 1 - (x | y), api.OK
		}
		return 1 - x*y, api.OK
	}
	return 0, api.ErrArg
}

// roundedDown makes the divisor positive: there big's own Div rounds down.
func roundedDown(a, b *big.Int) *big.Int {
	if b.Sign() < 0 {
		a, b = new(big.Int).Neg(a), new(big.Int).Neg(b)
	}
	return new(big.Int).Div(a, b)
}

func exactGcd(a, b *big.Int) *big.Int {
	return new(big.Int).GCD(nil, nil, new(big.Int).Abs(a), new(big.Int).Abs(b))
}

func exactLcm(a, b *big.Int) *big.Int {
	if a.Sign() == 0 || b.Sign() == 0 {
		return new(big.Int)
	}
	product := new(big.Int).Mul(a, b)
	return product.Quo(product.Abs(product), exactGcd(a, b))
}

// exactPower and exactChoose make great numbers less, to others for which the row tells the same: big would never end.

func exactPower(x, y int64) (int64, api.Errno) {
	if y < 0 {
		switch {
		case x == 1 || x == -1 && y%2 == 0:
			return 1, api.OK
		case x == -1:
			return -1, api.OK
		}
		return 0, api.ErrDomain
	}
	if y > 200 {
		y = 200 + y%2
	}
	return told(new(big.Int).Exp(whole(x), whole(y), nil), api.OK)
}

func exactChoose(x, y int64) (int64, api.Errno) {
	if y < 0 {
		return 0, api.ErrDomain
	}
	if x < 0 || x > y {
		return 0, api.OK
	}
	return told(new(big.Int).Binomial(y, min(x, y-x, 100)), api.OK)
}
