// Package wide adds up more than an int64 holds, so that only what comes out in the end must fit.
package wide

import (
	"math/bits"
)

// Int is a whole number of 192 bits: room for 2^60 products of two int64. The zero Int is 0.
type Int struct {
	high, mid, low uint64
}

// sign is what stands above a number: all bits, if it is below 0.
func sign(n int64) uint64 { return uint64(n >> 63) }

func (w *Int) add(high, mid, low uint64) {
	var carry uint64
	w.low, carry = bits.Add64(w.low, low, 0)
	w.mid, carry = bits.Add64(w.mid, mid, carry)
	w.high, _ = bits.Add64(w.high, high, carry)
}

// Add adds a number.
func (w *Int) Add(n int64) { w.add(sign(n), sign(n), uint64(n)) }

// AddProduct adds a number times another one.
func (w *Int) AddProduct(a, b int64) {
	mid, low := bits.Mul64(uint64(a), uint64(b))
	// Below 0 the factors were taken as 2^64 greater than they are.
	mid -= sign(a)&uint64(b) + sign(b)&uint64(a)
	w.add(sign(int64(mid)), mid, low)
}

// Int64 answers the number, and whether it is an int64.
func (w Int) Int64() (int64, bool) {
	n := int64(w.low)
	if w.mid != sign(n) || w.high != sign(n) {
		return 0, false
	}
	return n, true
}

// Negative tells whether the number is below 0.
func (w Int) Negative() bool { return int64(w.high) < 0 }
