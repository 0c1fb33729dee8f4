// Package crc is layer 1: a sum that tells what was turned. See shared/doc/01-crc.md.
package crc

// The register is a polynomial over one bit: its highest bit stands for the
// lowest power, so that a shift down is a product by x, and a product beyond
// the 32 bits is brought back by remainder.
const (
	remainder uint32 = 0xEDB88320
	oneByte   uint32 = 1 << (31 - 8) // x to the 8th: what a byte more does to the bytes ahead of it
)

// More: of more bytes.
func More(sum uint32, s string) uint32 {
	register := ^sum
	for i := range len(s) {
		register ^= uint32(s[i])
		for range 8 {
			register = shift(register)
		}
	}
	return ^register
}

// Of: of all parts.
func Of(parts ...string) uint32 {
	sum := uint32(0)
	for _, part := range parts {
		sum = More(sum, part)
	}
	return sum
}

// Is: whether a sum is that of bytes.
func Is(s string, sum uint32) bool { return Of(s) == sum }

// Join: of two texts, one behind the other.
//
// The turns by FFFFFFFF at both ends cancel out, so a is only moved by n bytes.
// It is moved by the powers of two that n is made of, as n may be too great to
// be counted down.
func Join(a, b uint32, n int) uint32 {
	if n < 1 {
		return a
	}
	for move := oneByte; n > 0; n >>= 1 {
		if n&1 == 1 {
			a = times(a, move)
		}
		move = times(move, move)
	}
	return a ^ b
}

// shift is a product by x.
func shift(register uint32) uint32 {
	if register&1 == 1 {
		return register>>1 ^ remainder
	}
	return register >> 1
}

// times is a product of two registers.
func times(a, b uint32) uint32 {
	product := uint32(0)
	for ; a != 0; a <<= 1 {
		if a>>31 == 1 {
			product ^= b
		}
		b = shift(b)
	}
	return product
}
