// Package nat is layer 1: natural numbers of any size (see shared/doc/01-nat.md).
package nat

import (
	"cmp"
	"math/bits"

	"retort/api"
)

// wordBits is how many bits a word of a number has.
const wordBits = 32

// Norm answers a without words 0 at its end.
func Norm(a api.Nat) api.Nat {
	a = trim(a)
	out := make(api.Nat, len(a))
	copy(out, a)
	return out
}

// trim leaves out words 0 at the end. It answers a's own memory, so what it makes of an argument is only read.
func trim(a api.Nat) api.Nat {
	n := len(a)
	for n > 0 && a[n-1] == 0 {
		n--
	}
	return a[:n]
}

// Compare answers -1, if a is less than b, 1, if it is greater, 0, if they are the same.
func Compare(a, b api.Nat) int {
	a, b = trim(a), trim(b)
	if len(a) != len(b) {
		return cmp.Compare(len(a), len(b))
	}
	for k := range len(a) {
		i := len(a) - 1 - k
		if a[i] != b[i] {
			return cmp.Compare(a[i], b[i])
		}
	}
	return 0
}

// Bits answers the least n such that a is below 2^n.
func Bits(a api.Nat) int {
	a = trim(a)
	if len(a) == 0 {
		return 0
	}
	return (len(a)-1)*wordBits + bits.Len32(a[len(a)-1])
}

// Of answers n.
func Of(n uint64) api.Nat {
	return trim(api.Nat{uint32(n), uint32(n >> wordBits)})
}

// Small answers a and true, if a is below 2^64.
func Small(a api.Nat) (uint64, bool) {
	a = trim(a)
	if len(a) > 2 {
		return 0, false
	}
	n := uint64(0)
	for i := range len(a) {
		n |= uint64(a[i]) << (i * wordBits)
	}
	return n, true
}
