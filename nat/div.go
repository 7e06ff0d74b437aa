package nat

import (
	"math/bits"

	"retort/api"
)

// DivMod answers the greatest q with q b at most a, and the rest: ErrZero, if b is 0.
func DivMod(a, b api.Nat) (api.Nat, api.Nat, api.Errno) {
	a, b = trim(a), trim(b)
	if len(b) == 0 {
		return nil, nil, api.ErrZero
	}
	if Compare(a, b) < 0 {
		return nil, Norm(a), api.OK
	}
	if len(b) == 1 {
		quot := Norm(a)
		rest := divWord(quot, b[0])
		return trim(quot), Of(uint64(rest)), api.OK
	}
	quot, rest := divLong(a, b)
	return quot, rest, api.OK
}

// divWord divides a, in its own words, by w, and answers the rest.
func divWord(a api.Nat, w uint32) uint32 {
	rest := uint64(0)
	for k := range len(a) {
		i := len(a) - 1 - k
		rest = rest<<wordBits | uint64(a[i])
		a[i] = uint32(rest / uint64(w))
		rest %= uint64(w)
	}
	return uint32(rest)
}

// divLong divides by a number of two words or more that is at most a. Both are shifted first till b's top bit is set: a guess from the top words is then hardly ever wrong.
func divLong(a, b api.Nat) (api.Nat, api.Nat) {
	by := bits.LeadingZeros32(b[len(b)-1])
	rest := shiftUp(a, 0, by)
	div := shiftUp(b, 0, by)[:len(b)]
	quot := make(api.Nat, len(a)-len(b)+1)
	for k := range len(quot) {
		i := len(quot) - 1 - k
		quot[i] = divStep(rest[i:i+len(div)+1], div)
	}
	return trim(quot), trim(shiftDown(rest[:len(div)], 0, by))
}

// divStep answers how often div goes into rest, which has a word more, and leaves what is left in the words below that one: it is not looked at again. It must go less than 2^32 times.
func divStep(rest, div api.Nat) uint32 {
	times := guess(rest, div)
	if takeTimes(rest, div, times) > rest[len(div)] { // once too often
		addTimes(rest, div, 1)
		times--
	}
	return times
}

// guess answers how often div goes into rest, or once more, by their topmost words.
func guess(rest, div api.Nat) uint32 {
	n := len(div)
	top := uint64(rest[n])<<wordBits | uint64(rest[n-1])
	first, second := uint64(div[n-1]), uint64(div[n-2])
	times, left := top/first, top%first
	for times>>wordBits > 0 || times*second > left<<wordBits|uint64(rest[n-2]) {
		times--
		left += first
		if left>>wordBits > 0 {
			break
		}
	}
	return uint32(times)
}
