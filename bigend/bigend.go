// Package bigend writes numbers as a fixed count of bytes, the highest one first.
package bigend

// Append writes n's lowest bytes, so many as size says, behind b, which it may use up.
func Append(b []byte, n uint64, size int) []byte {
	for shift := 8 * (size - 1); shift >= 0; shift -= 8 {
		b = append(b, byte(n>>shift))
	}
	return b
}

// Number answers the number whose bytes b are.
func Number(b []byte) uint64 {
	n := uint64(0)
	for _, c := range b {
		n = n<<8 | uint64(c)
	}
	return n
}
