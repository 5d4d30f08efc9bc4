package num

import (
	"math"
	"math/big"
	"testing"
)

// Types of the program's own kind: Int takes them, too.
type small int32
type great int64

// sumOf is one of the three calls, and the same done without a bound.
type sumOf[W Int] struct {
	name  string
	call  func(a, b W) (W, bool)
	exact func(a, b *big.Int) *big.Int
}

func sums[W Int]() []sumOf[W] {
	return []sumOf[W]{
		{"Add", Add[W], func(a, b *big.Int) *big.Int { return new(big.Int).Add(a, b) }},
		{"Sub", Sub[W], func(a, b *big.Int) *big.Int { return new(big.Int).Sub(a, b) }},
		{"Mul", Mul[W], func(a, b *big.Int) *big.Int { return new(big.Int).Mul(a, b) }},
	}
}

// edges are the numbers about which a sum of that many bits begins not to fit.
func edges(width int) []int64 {
	least, most := int64(-1)<<(width-1), int64(math.MaxInt64)>>(64-width)
	half := int64(1) << (width/2 - 1)
	out := []int64{0, 1, -1, 2, -2, 3, -3, 7, -7, 10, 100, -100, 12345, -12345}
	for d := int64(0); d < 3; d++ {
		out = append(out, least+d, most-d, least/2+d, least/2-d-1, most/2+d, most/2-d-1, half+d, half-d-1, 2*half+d, -half-d, -2*half+d, least/3+d, most/3-d)
	}
	return out
}

func checkSums[W Int](t *testing.T, width int) {
	t.Helper()
	for _, s := range sums[W]() {
		for _, a := range edges(width) {
			for _, b := range edges(width) {
				checkSum(t, s, width, W(a), W(b))
			}
		}
	}
}

func checkSum[W Int](t *testing.T, s sumOf[W], width int, a, b W) {
	t.Helper()
	exact := s.exact(big.NewInt(int64(a)), big.NewInt(int64(b)))
	least := new(big.Int).Neg(new(big.Int).Lsh(big.NewInt(1), uint(width-1)))
	fits := exact.Cmp(least) >= 0 && exact.Cmp(new(big.Int).Neg(least)) < 0
	want := W(0)
	if fits {
		want = W(exact.Int64())
	}
	if n, ok := s.call(a, b); n != want || ok != fits {
		t.Errorf("P1.1: %s[%d bits](%d, %d): %d, %v; want %d, %v", s.name, width, a, b, n, ok, want, fits)
	}
}

func TestSumsAtEdges(t *testing.T) {
	checkSums[int32](t, 32)
	checkSums[int64](t, 64)
	checkSums[small](t, 32)
	checkSums[great](t, 64)
}

func TestSumsNearZero(t *testing.T) {
	for _, s := range sums[int32]() {
		for a := int32(-20); a <= 20; a++ {
			for b := int32(-20); b <= 20; b++ {
				checkSum(t, s, 32, a, b)
			}
		}
	}
}

func TestSumsExamples(t *testing.T) {
	if n, ok := Add[int32](2147483647, 1); n != 0 || ok {
		t.Errorf("P1.1: %d, %v", n, ok)
	}
	if n, ok := Add[int64](2147483647, 1); n != 2147483648 || !ok {
		t.Errorf("P1.1: %d, %v", n, ok)
	}
	if n, ok := Mul[int64](-1, math.MinInt64); n != 0 || ok {
		t.Errorf("P1.1: %d, %v", n, ok)
	}
	if n, ok := Mul[int64](math.MinInt64, -1); n != 0 || ok {
		t.Errorf("P1.1: %d, %v", n, ok)
	}
	if n, ok := Mul[int32](-1, math.MinInt32); n != 0 || ok {
		t.Errorf("P1.1: %d, %v", n, ok)
	}
}
