package nat

import "retort/api"

// Shift answers a times 2^by, or for by below 0 a divided by 2^-by: ErrLarge, if by is beyond MaxShift either way.
func Shift(a api.Nat, by int) (api.Nat, api.Errno) {
	if by > api.MaxShift || by < -api.MaxShift {
		return nil, api.ErrLarge
	}
	a = trim(a)
	if by < 0 {
		return trim(shiftDown(a, -by/wordBits, -by%wordBits)), api.OK
	}
	return trim(shiftUp(a, by/wordBits, by%wordBits)), api.OK
}

// shiftUp shifts by whole words and by bits below a word's. What it answers has room for all that can come of that: one word more than there was.
func shiftUp(a api.Nat, words, by int) api.Nat {
	out := make(api.Nat, words+len(a)+1)
	carry := uint64(0)
	for i := range len(a) {
		carry |= uint64(a[i]) << by
		out[words+i] = uint32(carry)
		carry >>= wordBits
	}
	out[words+len(a)] = uint32(carry)
	return out
}

// shiftDown shifts by whole words and by bits below a word's.
func shiftDown(a api.Nat, words, by int) api.Nat {
	if words >= len(a) {
		return nil
	}
	out := make(api.Nat, len(a)-words)
	copy(out, a[words:])
	for i := range len(out) {
		pair := uint64(out[i])
		if i+1 < len(out) {
			pair |= uint64(out[i+1]) << wordBits
		}
		out[i] = uint32(pair >> by)
	}
	return out
}
