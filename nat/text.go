package nat

import (
	"slices"

	"retort/api"
)

// Digits are read and told in groups: as many as surely fit a word.
const (
	groupDigits = 9
	groupSize   = 1000000000
)

// Decimal answers a's decimal digits, without noughts ahead.
func Decimal(a api.Nat) string {
	left := Norm(a)
	var digits []byte // the last one first
	for len(left) > 0 {
		group := divWord(left, groupSize)
		left = trim(left)
		for range groupDigits {
			digits = append(digits, byte('0'+group%10))
			group /= 10
		}
	}
	for len(digits) > 0 && digits[len(digits)-1] == '0' {
		digits = digits[:len(digits)-1]
	}
	if len(digits) == 0 {
		return "0"
	}
	slices.Reverse(digits)
	return string(digits)
}

// Parse answers the number whose digits s is: ErrForm, unless Decimal tells some number so.
func Parse(s string) (api.Nat, api.Errno) {
	if !isDecimal(s) {
		return nil, api.ErrForm
	}
	var out api.Nat
	for len(s) > 0 {
		n := min(groupDigits, len(s))
		out = putGroup(out, s[:n])
		s = s[n:]
	}
	return out, api.OK
}

// isDecimal tells whether Decimal could answer s.
func isDecimal(s string) bool {
	if s == "" || s[0] == '0' && len(s) > 1 {
		return false
	}
	for i := range len(s) {
		if s[i] < '0' || s[i] > '9' {
			return false
		}
	}
	return true
}

// putGroup puts a group of digits behind those of a, in a's own words and one more, if there must be.
func putGroup(a api.Nat, group string) api.Nat {
	size, carry := uint64(1), uint64(0)
	for i := range len(group) {
		size *= 10
		carry = carry*10 + uint64(group[i]-'0')
	}
	for i := range len(a) {
		carry += uint64(a[i]) * size
		a[i] = uint32(carry)
		carry >>= wordBits
	}
	if carry > 0 {
		a = append(a, uint32(carry))
	}
	return a
}
