package nat

import "retort/api"

// Add answers the sum.
func Add(a, b api.Nat) api.Nat {
	return sum(a, b)
}

// sum adds all numbers of the list at once, word by word: what is carried stays below the list's length, so it fits one more word.
func sum(list ...api.Nat) api.Nat {
	longest := 0
	for _, a := range list {
		longest = max(longest, len(a))
	}
	out := make(api.Nat, longest+1)
	carry := uint64(0)
	for i := range longest {
		for _, a := range list {
			if i < len(a) {
				carry += uint64(a[i])
			}
		}
		out[i] = uint32(carry)
		carry >>= wordBits
	}
	out[longest] = uint32(carry)
	return trim(out)
}

// Monus answers a less b, or 0, if b is greater.
func Monus(a, b api.Nat) api.Nat {
	if Compare(a, b) <= 0 {
		return nil
	}
	out := Norm(a)
	b = trim(b)
	borrow := takeTimes(out, b, 1)
	for i := len(b); borrow > 0; i++ { // ends within out, since b is less than a
		next := uint32(0)
		if out[i] < borrow {
			next = 1
		}
		out[i] -= borrow
		borrow = next
	}
	return trim(out)
}

// Mul answers the product.
func Mul(a, b api.Nat) api.Nat {
	a, b = trim(a), trim(b)
	out := make(api.Nat, len(a)+len(b))
	for i := range len(a) {
		out[i+len(b)] = addTimes(out[i:], b, a[i])
	}
	return trim(out)
}

// addTimes adds b times w to as many words of a as b has, and answers what is carried beyond them. A word, a product of words and another word together are at most 2^64 - 1.
func addTimes(a, b api.Nat, w uint32) uint32 {
	carry := uint64(0)
	for i := range len(b) {
		carry += uint64(b[i])*uint64(w) + uint64(a[i])
		a[i] = uint32(carry)
		carry >>= wordBits
	}
	return uint32(carry)
}

// takeTimes takes b times w from as many words of a as b has, and answers what is borrowed from beyond them.
func takeTimes(a, b api.Nat, w uint32) uint32 {
	borrow := uint64(0)
	for i := range len(b) {
		borrow += uint64(b[i]) * uint64(w)
		low := uint32(borrow)
		borrow >>= wordBits
		if a[i] < low {
			borrow++
		}
		a[i] -= low
	}
	return uint32(borrow)
}
