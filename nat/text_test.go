package nat_test

import (
	"math/big"
	"strings"
	"testing"

	"retort/api"
	"retort/nat"
)

// P1.6

// told says whether Decimal and Parse go both ways between that number and its digits.
func told(a api.Nat) bool {
	s := nat.Decimal(a)
	back, e := nat.Parse(s)
	return s == value(a).String() && e == api.OK && is(back, value(a))
}

func TestDecimalAndParse(t *testing.T) {
	for _, a := range pool() {
		if !told(a) {
			t.Errorf("of %s: %q", show(a), nat.Decimal(a))
		}
	}
	if s := nat.Decimal(api.Nat{0, 1}); s != "4294967296" {
		t.Error(s)
	}
	for _, a := range []api.Nat{nil, {}, {0}, {0, 0}} {
		if s := nat.Decimal(a); s != "0" {
			t.Errorf("of 0: %q", s)
		}
	}
	if a, e := nat.Parse("0"); e != api.OK || len(a) != 0 {
		t.Errorf("of \"0\": %s, %d", show(a), e)
	}
}

// The powers of 2 and of 10, and their neighbours: noughts and nines in every place.
func TestTextsAtPowers(t *testing.T) {
	one := api.Nat{1}
	for _, base := range []api.Nat{{2}, {10}} {
		power := one
		for range 300 {
			if !told(power) || !told(nat.Add(power, one)) || !told(nat.Monus(power, one)) {
				t.Fatalf("at %s", value(power))
			}
			power = nat.Mul(power, base)
		}
	}
}

func TestLongTexts(t *testing.T) {
	for _, s := range []string{"1" + strings.Repeat("0", 20000), strings.Repeat("9", 20001), strings.Repeat("1234567890", 2000)} {
		want, _ := new(big.Int).SetString(s, 10)
		a, e := nat.Parse(s)
		if e != api.OK || !is(a, want) || nat.Decimal(a) != s {
			t.Errorf("%d digits: %d", len(s), e)
		}
		if a, e := nat.Parse(s + " "); e != api.ErrForm || len(a) != 0 {
			t.Errorf("%d digits and a blank: %d", len(s), e)
		}
	}
}

func TestParseOfNoNumber(t *testing.T) {
	for _, s := range []string{
		"", "00", "007", "01", "0000000000", "+1", "-1", "-0", "+", "-", " 1", "1 ", " ", "1\n", "\t1", "1 2",
		"1a", "a1", "a", "0x1", "0b1", "1_000", "1,000", "1.0", "1e3", "1/", "1:", "/", ":", "\x00", "1\x00",
		"\xff", "1\xff", "\xb1", "\u0661", "1\u0662", "\uff11", "\u00b2", "123456789-", "123456789012345678x", "x23456789012345678",
	} {
		if a, e := nat.Parse(s); e != api.ErrForm || len(a) != 0 {
			t.Errorf("of %q: %s, %d", s, show(a), e)
		}
	}
	for c := range 256 {
		s := "1" + string([]byte{byte(c)}) + "2"
		_, e := nat.Parse(s)
		if digit := c >= '0' && c <= '9'; digit != (e == api.OK) {
			t.Errorf("of %q: %d", s, e)
		}
	}
}
