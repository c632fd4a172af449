// Package crc is layer 2: see shared/doc/02-crc.md.
package crc

const (
	// turned is what a step turns in the register behind a bit 1 that fell out.
	turned uint32 = 0xedb88320

	// byteOn is what eight steps make of the highest bit: no bit falls out in them.
	byteOn uint32 = 1 << 23
)

// Sum is a text's sum.
func Sum(s string) uint32 {
	return More(0, s)
}

// More is the sum of a text, and another one behind it, by the sum of the first.
func More(sum uint32, s string) uint32 {
	register := ^sum
	for i := range len(s) {
		register ^= uint32(s[i])
		for range 8 {
			register = step(register)
		}
	}
	return ^register
}

// Join is the sum of two texts, one behind the other, by their sums and how long the second one is.
func Join(a, b uint32, n int) uint32 {
	// on goes 1, 2, 4, 8 .. bytes on: so it takes a turn a bit of n, and 8 n, which may wrap round, is never asked for.
	on := byteOn
	for left := n; left > 0; left >>= 1 {
		if left&1 == 1 {
			a = times(a, on)
		}
		on = times(on, on)
	}
	return a ^ b
}

// step moves a register down by one bit.
func step(register uint32) uint32 {
	// A mask, as a branch on a sum's bits is foretold wrong half the time.
	return register>>1 ^ turned&-(register&1)
}

// times is the register that as many steps make of a as make on of the highest bit. Steps of
// registers turned in each other are their steps turned in each other: so it is a, a step of a,
// two steps of a .., each of them if on has the bit that as many steps make of the highest one.
func times(a, on uint32) uint32 {
	product := uint32(0)
	for i := range 32 {
		if on>>(31-i)&1 == 1 {
			product ^= a
		}
		a = step(a)
	}
	return product
}
