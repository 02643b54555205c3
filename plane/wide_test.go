package plane

import (
	"math"
	"math/big"
	"testing"
)

// value tells a wide number by its two halves.
func value(w wide) *big.Int {
	n := new(big.Int).Lsh(big.NewInt(int64(w.high)), 64)
	return n.Add(n, new(big.Int).SetUint64(w.low))
}

var edges = []int{math.MinInt, math.MinInt + 1, -1 << 43, -1 << 32, -2, -1, 0, 1, 2, 1 << 32, 1 << 43, math.MaxInt}

func TestProduct(t *testing.T) {
	for _, a := range edges {
		for _, b := range edges {
			want := new(big.Int).Mul(big.NewInt(int64(a)), big.NewInt(int64(b)))
			w := product(a, b)
			if got := value(w); got.Cmp(want) != 0 {
				t.Errorf("product(%d, %d) = %v", a, b, got)
			}
			if w.sign() != want.Sign() {
				t.Errorf("the sign of product(%d, %d) = %d", a, b, w.sign())
			}
		}
	}
}

// TestPlus goes through sums that cancel, carry and borrow between the halves.
func TestPlus(t *testing.T) {
	var parts []wide
	for _, a := range edges[1:] {
		for _, b := range edges[1:] {
			parts = append(parts, product(a, b))
		}
	}
	for _, v := range parts {
		for _, w := range parts {
			want := new(big.Int).Add(value(v), value(w))
			sum := v.plus(w)
			if got := value(sum); got.Cmp(want) != 0 || sum.sign() != want.Sign() {
				t.Errorf("%v and %v = %v, its sign %d", value(v), value(w), got, sum.sign())
			}
		}
	}
}
