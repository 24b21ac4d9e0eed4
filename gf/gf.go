// Package gf is layer 1: see shared/doc/01-gf.md.
package gf

// Mul is the product of a and b. The bytes may be a key's, so that no branch
// and no place in a table hangs on them.
func Mul(a, b byte) byte {
	var sum byte
	for range 8 {
		sum ^= a & -(b & 1)
		a = timesX(a)
		b >>= 1
	}
	return sum
}

// timesX takes 11b off where bit 7 would become x to the 8; 1b is what is
// left of 11b in a byte.
func timesX(a byte) byte {
	return a<<1 ^ 0x1b&-(a>>7)
}

// Inv is the inverse of a, and 0 of 0. It is a to the 254, as a to the 255 is
// 1 for all bytes but 0; and 254 is 2 + 4 + .. + 128.
func Inv(a byte) byte {
	power := byte(1)
	for range 7 {
		a = Mul(a, a)
		power = Mul(power, a)
	}
	return power
}

// Box is the box of a. Bit i of a byte turned left by k is its bit i + 8 - k,
// so that the places i, i + 7, .., i + 4 are turns by 0 to 4.
func Box(a byte) byte {
	b := Inv(a)
	box := byte(0x63)
	for k := range 5 {
		box ^= turnLeft(b, k)
	}
	return box
}

// Unbox is the byte whose box is a. The turns by 1, 3 and 6 undo the sum of
// those by 0 to 4, and make 05 of 63.
func Unbox(a byte) byte {
	return Inv(turnLeft(a, 1) ^ turnLeft(a, 3) ^ turnLeft(a, 6) ^ 0x05)
}

// turnLeft is a turned to the left by k bits, k from 0 to 8.
func turnLeft(a byte, k int) byte {
	return a<<k | a>>(8-k)
}
