package nat_test

import (
	"math"
	"math/big"
	"testing"

	"retort/api"
	"retort/nat"
)

// P1.1

func TestNorm(t *testing.T) {
	for _, a := range pool() {
		if got := nat.Norm(a); !is(got, value(a)) {
			t.Errorf("Norm of %s: %s", show(a), show(got))
		}
	}
	if got := nat.Norm(api.Nat{0, 7, 0, 0}); !words(got, 0, 7) {
		t.Error(show(got))
	}
}

func TestAdd(t *testing.T) {
	if got := nat.Add(api.Nat{4294967295}, api.Nat{1}); !words(got, 0, 1) {
		t.Error(show(got))
	}
	pairs(t, func(a, b api.Nat) bool {
		return is(nat.Add(a, b), new(big.Int).Add(value(a), value(b)))
	})
}

func TestMonus(t *testing.T) {
	if got := nat.Monus(api.Nat{3}, api.Nat{5}); len(got) != 0 {
		t.Error(show(got))
	}
	if got := nat.Monus(api.Nat{0, 0, 0, 1, 0}, api.Nat{1, 0}); !words(got, 0xFFFFFFFF, 0xFFFFFFFF, 0xFFFFFFFF) {
		t.Error(show(got))
	}
	pairs(t, func(a, b api.Nat) bool {
		want := new(big.Int).Sub(value(a), value(b))
		if want.Sign() < 0 {
			want.SetInt64(0)
		}
		return is(nat.Monus(a, b), want)
	})
}

func TestMul(t *testing.T) {
	pairs(t, func(a, b api.Nat) bool {
		return is(nat.Mul(a, b), new(big.Int).Mul(value(a), value(b)))
	})
}

// P1.2

func TestDivModByZero(t *testing.T) {
	for _, a := range pool() {
		for _, b := range []api.Nat{nil, {}, {0}, {0, 0, 0}} {
			if q, r, e := nat.DivMod(a, b); e != api.ErrZero || len(q)+len(r) != 0 {
				t.Errorf("of %s and %s: %s, %s, %d", show(a), show(b), show(q), show(r), e)
			}
		}
	}
}

// divides says whether DivMod answers the quotient and the rest.
func divides(a, b api.Nat) bool {
	q, r, e := nat.DivMod(a, b)
	wantQ, wantR := new(big.Int).QuoRem(value(a), value(b), new(big.Int))
	return e == api.OK && is(q, wantQ) && is(r, wantR)
}

func TestDivMod(t *testing.T) {
	if q, r, e := nat.DivMod(api.Nat{17}, api.Nat{5}); e != api.OK || !words(q, 3) || !words(r, 2) {
		t.Errorf("%s, %s, %d", show(q), show(r), e)
	}
	pairs(t, func(a, b api.Nat) bool {
		return value(b).Sign() == 0 || divides(a, b)
	})
}

// Numbers by which the first guess of a word of the quotient is one too great, or beyond a word.
func TestDivModGuesses(t *testing.T) {
	const most = 0xFFFFFFFF
	for _, c := range [][2]api.Nat{
		{{3, 0, 0x80000000}, {1, 0, 0x20000000}},
		{{0, 0, 0x80000000, 0x7FFFFFFF}, {1, 0, 0x80000000}},
		{{0, most - 1, 0x80000000}, {most, 0x80000000}},
		{{most, most, most - 1, most}, {most, most, most}},
		{{0, 0, 0, most, most - 1}, {0, most, most}},
		{{0, 0, 0, 0, 0x80000000}, {most, most, 0x80000000}},
		{{most, most, 0x7FFFFFFF, 0x80000000}, {most, most, 0x80000000}},
	} {
		if !divides(c[0], c[1]) {
			t.Errorf("of %s and %s", show(c[0]), show(c[1]))
		}
	}
	d := dice(2)
	for i := range 20000 {
		a, b := d.number(2+i%7), d.number(1+i%5)
		b[0] |= 1
		if !divides(a, b) {
			t.Fatalf("of %s and %s", show(a), show(b))
		}
	}
}

// A product and a rest below the divisor are told apart again, just below and at a multiple too.
func TestDivModOfMultiples(t *testing.T) {
	for _, b := range pool() {
		for _, q := range edges() {
			if value(b).Sign() == 0 || value(q).Sign() == 0 {
				continue
			}
			a := nat.Mul(b, q)
			if !divides(a, b) || !divides(nat.Monus(a, api.Nat{1}), b) || !divides(nat.Add(a, api.Nat{1}), b) {
				t.Errorf("%s times %s", show(b), show(q))
			}
		}
	}
}

// P1.3

func TestCompare(t *testing.T) {
	pairs(t, func(a, b api.Nat) bool {
		return nat.Compare(a, b) == value(a).Cmp(value(b))
	})
	for _, a := range pool() {
		if nat.Compare(a, append(nat.Norm(a), 0, 0)) != 0 {
			t.Errorf("words 0 at the end count: %s", show(a))
		}
	}
}

// P1.4

func TestShift(t *testing.T) {
	for _, a := range pool() {
		for _, by := range []int{0, 1, 5, 31, 32, 33, 63, 64, 65, 96, 100, 1000, 65504, 65535, 65536} {
			up, e := nat.Shift(a, by)
			if e != api.OK || !is(up, new(big.Int).Lsh(value(a), uint(by))) {
				t.Errorf("%s by %d: %s, %d", show(a), by, show(up), e)
			}
			down, e := nat.Shift(a, -by)
			if e != api.OK || !is(down, new(big.Int).Rsh(value(a), uint(by))) {
				t.Errorf("%s by -%d: %s, %d", show(a), by, show(down), e)
			}
			if back, e := nat.Shift(up, -by); e != api.OK || !is(back, value(a)) {
				t.Errorf("%s by %d and back: %s, %d", show(a), by, show(back), e)
			}
		}
	}
	if a, e := nat.Shift(api.Nat{5}, 32); e != api.OK || !words(a, 0, 5) {
		t.Errorf("%s, %d", show(a), e)
	}
	if a, e := nat.Shift(api.Nat{5}, -1); e != api.OK || !words(a, 2) {
		t.Errorf("%s, %d", show(a), e)
	}
}

func TestShiftTooFar(t *testing.T) {
	for _, by := range []int{65537, -65537, 65568, -65568, 1 << 32, -1 << 32, math.MaxInt, math.MinInt, math.MinInt + 1} {
		for _, a := range edges() {
			if out, e := nat.Shift(a, by); e != api.ErrLarge || len(out) != 0 {
				t.Errorf("%s by %d: %s, %d", show(a), by, show(out), e)
			}
		}
	}
}

func TestBits(t *testing.T) {
	for _, a := range pool() {
		if got := nat.Bits(a); got != value(a).BitLen() {
			t.Errorf("of %s: %d", show(a), got)
		}
	}
	for n := range 200 {
		a, _ := nat.Shift(api.Nat{1}, n)
		if nat.Bits(a) != n+1 || nat.Bits(nat.Monus(a, api.Nat{1})) != n {
			t.Errorf("at 2^%d: %d", n, nat.Bits(a))
		}
	}
	if nat.Bits(nil) != 0 || nat.Bits(api.Nat{255}) != 8 {
		t.Error("the chapter's examples")
	}
}

// P1.5

func TestOfAndSmall(t *testing.T) {
	for _, n := range []uint64{0, 1, 255, 1<<31 - 1, 1 << 31, 1<<32 - 1, 1 << 32, 1<<32 + 1, 5 << 32, 1<<63 - 1, 1 << 63, math.MaxUint64 - 1, math.MaxUint64} {
		a := nat.Of(n)
		if !is(a, new(big.Int).SetUint64(n)) {
			t.Errorf("Of %d: %s", n, show(a))
		}
		for _, b := range []api.Nat{a, append(nat.Norm(a), 0), append(nat.Norm(a), 0, 0, 0)} {
			if got, ok := nat.Small(b); !ok || got != n {
				t.Errorf("Small of %s: %d, %v", show(b), got, ok)
			}
		}
	}
}

func TestSmall(t *testing.T) {
	for _, a := range pool() {
		v := value(a)
		got, ok := nat.Small(a)
		if ok != v.IsUint64() || ok && got != v.Uint64() || !ok && got != 0 {
			t.Errorf("of %s: %d, %v", show(a), got, ok)
		}
	}
	if n, ok := nat.Small(api.Nat{0, 0, 1}); ok || n != 0 {
		t.Errorf("of 2^64: %d, %v", n, ok)
	}
}
