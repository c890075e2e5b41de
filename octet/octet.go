// Package octet is layer 1: numbers, and bits, as bytes.
package octet

import (
	"iter"
	"math/bits"
	"strings"

	"ouroboros/api"
)

const (
	// maxWidth keeps every number that bytes can be within an int of 64 bits.
	maxWidth = 7
	maxOnes  = 100000
)

// Put is n in width bytes, the lowest ones first.
func Put(n, width int) (string, api.Errno) {
	if !isWidth(width) || n < 0 || n>>(8*width) != 0 {
		return "", api.ErrArg
	}
	out := make([]byte, width)
	for i := range width {
		out[i] = byte(n >> (8 * i))
	}
	return string(out), api.OK
}

// Get is the number that the width bytes of s from place at on are.
func Get(s string, at, width int) (int, api.Errno) {
	if !isWidth(width) {
		return 0, api.ErrArg
	}
	// at+width would wrap round for the greatest at.
	if at < 0 || at > len(s)-width {
		return 0, api.ErrForm
	}
	n := 0
	for shift, digit := range digits(s[at : at+width]) {
		n |= digit << shift
	}
	return n, api.OK
}

// And is the bits that both have.
func And(a, b string) string {
	return pairwise(a, b, func(x, y byte) byte { return x & y })
}

// Or is the bits that one of them has, or both have.
func Or(a, b string) string {
	return pairwise(a, b, func(x, y byte) byte { return x | y })
}

// Xor is the bits that just one of them has.
func Xor(a, b string) string {
	return pairwise(a, b, func(x, y byte) byte { return x ^ y })
}

// Not is s with all its bits turned.
func Not(s string) string {
	out := make([]byte, len(s))
	for i := range len(s) {
		out[i] = ^s[i]
	}
	return string(out)
}

// Ones is n bytes of ones alone; none, if n is out of its range.
func Ones(n int) string {
	if n < 0 || n > maxOnes {
		return ""
	}
	return strings.Repeat("\xff", n)
}

// Count is how many bits of s are ones.
func Count(s string) int {
	n := 0
	for i := range len(s) {
		n += bits.OnesCount8(s[i])
	}
	return n
}

func isWidth(width int) bool { return width >= 1 && width <= maxWidth }

// digits tells of each byte of s by how many bits it stands above the lowest one, and the byte.
func digits(s string) iter.Seq2[int, int] {
	return func(yield func(int, int) bool) {
		for i := range len(s) {
			if !yield(8*i, int(s[i])) {
				return
			}
		}
	}
}

// pairwise is a, with do of both bytes at each place where b has one, too.
func pairwise(a, b string, do func(x, y byte) byte) string {
	out := []byte(a)
	for i := range min(len(a), len(b)) {
		out[i] = do(a[i], b[i])
	}
	return string(out)
}
