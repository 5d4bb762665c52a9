package wide

import (
	"math"
	"math/big"
	"math/rand"
	"testing"
)

func same(t *testing.T, w Int, b *big.Int) {
	t.Helper()
	n, fits := w.Int64()
	if fits != b.IsInt64() || fits && n != b.Int64() || !fits && n != 0 || w.Negative() != (b.Sign() < 0) {
		t.Fatal(w, b)
	}
}

func TestAsBig(t *testing.T) {
	r := rand.New(rand.NewSource(1))
	edges := []int64{math.MinInt64, math.MinInt64 + 1, -1 << 32, -2, -1, 0, 1, 2, 1 << 32, math.MaxInt64 - 1, math.MaxInt64}
	for _, a := range edges {
		for _, b := range edges {
			var w Int
			w.AddProduct(a, b)
			same(t, w, new(big.Int).Mul(big.NewInt(a), big.NewInt(b)))
		}
	}
	for range 300 {
		var w Int
		b := new(big.Int)
		for range 50 {
			x, y := edges[r.Intn(len(edges))], edges[r.Intn(len(edges))]
			if r.Intn(2) == 0 {
				w.Add(x)
				b.Add(b, big.NewInt(x))
			} else {
				w.AddProduct(x, y)
				b.Add(b, new(big.Int).Mul(big.NewInt(x), big.NewInt(y)))
			}
			same(t, w, b)
		}
	}
}
