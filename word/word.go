// Package word is layer 1: see shared/doc/01-word.md.
package word

import "math/bits"

const (
	maxBytes  = 8  // bytes of the greatest number
	maxGroups = 10 // groups of seven bits of the greatest number
	more      = 128
)

// Put is the lowest n bytes of a number, the lowest first.
func Put(v uint64, n int) string {
	if n < 0 || n > maxBytes {
		return ""
	}
	var b [maxBytes]byte
	for i := range n {
		b[i] = byte(v >> (8 * i))
	}
	return string(b[:n])
}

// Get is the number of the n bytes at a place.
func Get(s string, at, n int) (uint64, bool) {
	// What is left is asked for by a difference: at + n may wrap round.
	if n < 0 || n > maxBytes || at < 0 || n > len(s)-at {
		return 0, false
	}
	v := uint64(0)
	for i := range n {
		v |= uint64(s[at+i]) << (8 * i)
	}
	return v, true
}

// Var is a number in as few groups of seven bits as it takes.
func Var(v uint64) string {
	var b [maxGroups]byte
	n := groups(v)
	for i := range n {
		b[i] = byte(v>>(7*i)) | more
	}
	b[n-1] &^= more
	return string(b[:n])
}

// TakeVar is the number whose groups stand at a place, and the place behind them.
func TakeVar(s string, at int) (uint64, int, bool) {
	if at < 0 || at >= len(s) {
		return 0, 0, false
	}
	v := uint64(0)
	for i := range len(s) - at {
		g := s[at+i]
		// Of 64 bits nine groups leave one: a greater group here, or one more behind it, is 2 to the 64 at least.
		if i == maxGroups-1 && g > 1 {
			return 0, 0, false
		}
		v |= uint64(g&^more) << (7 * i)
		if g&more != 0 {
			continue
		}
		// A last group 0 behind others is one more than it takes.
		if g == 0 && i > 0 {
			return 0, 0, false
		}
		return v, at + i + 1, true
	}
	return 0, 0, false
}

// Zig lays signed numbers among the others: 0, -1, 1, -2, and so on.
func Zig(i int64) uint64 {
	// -2 i - 1 is 2 i with all bits turned, and i >> 63 has all bits just if i is below 0.
	return uint64(i<<1) ^ uint64(i>>63)
}

// Zag is the signed number of one that Zig tells.
func Zag(u uint64) int64 {
	return int64(u>>1) ^ -int64(u&1)
}

// Width is how many bytes a number takes.
func Width(v uint64) int {
	return (bits.Len64(v) + 7) / 8
}

// groups is how many groups of seven bits a number takes: one at least, as a last byte must be there.
func groups(v uint64) int {
	return (bits.Len64(v|1) + 6) / 7
}
