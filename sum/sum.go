// Package sum is layer 1: CRC-32 checksums of byte strings: see shared/doc/01-sum.md.
package sum

// divisor is the polynomial of IEEE 802.3 without x^32. The coefficient of x^31 is its least
// significant bit, because the bits of a byte come least significant first.
const divisor uint32 = 0xEDB88320

// Of returns the checksum of b.
func Of(b []byte) uint32 {
	// The empty string has the checksum 0, and b is what follows it.
	return More(0, b)
}

// More returns the checksum of a byte string with the checksum s, followed by b.
func More(s uint32, b []byte) uint32 {
	// A checksum is a remainder with its bits inverted: inverting it again gives the remainder
	// from which the division goes on, and for s = 0 the ones that invert the first 32 coefficients.
	rest := ^s
	for _, c := range b {
		rest = divide(rest, c)
	}
	return ^rest
}

// divide returns the remainder after the eight coefficients of c, where rest is the one ahead of them.
func divide(rest uint32, c byte) uint32 {
	rest ^= uint32(c)
	for range 8 {
		// A product instead of a branch: which bits are set cannot be foreseen.
		rest = rest>>1 ^ divisor*(rest&1)
	}
	return rest
}
