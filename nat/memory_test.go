package nat_test

import (
	"slices"
	"testing"

	"retort/api"
	"retort/nat"
)

// P1.7

// call is one of the package's calls that answer numbers.
type call struct {
	name string
	do   func(a, b api.Nat) []api.Nat
}

func calls() []call {
	shift := func(by int) call {
		return call{"Shift", func(a, _ api.Nat) []api.Nat {
			out, _ := nat.Shift(a, by)
			return []api.Nat{out}
		}}
	}
	return []call{
		{"Norm", func(a, _ api.Nat) []api.Nat { return []api.Nat{nat.Norm(a)} }},
		{"Add", func(a, b api.Nat) []api.Nat { return []api.Nat{nat.Add(a, b)} }},
		{"Monus", func(a, b api.Nat) []api.Nat { return []api.Nat{nat.Monus(a, b)} }},
		{"Mul", func(a, b api.Nat) []api.Nat { return []api.Nat{nat.Mul(a, b)} }},
		{"DivMod", func(a, b api.Nat) []api.Nat {
			q, r, _ := nat.DivMod(a, b)
			return []api.Nat{q, r}
		}},
		{"Compare, Bits, Small, Decimal", func(a, b api.Nat) []api.Nat {
			nat.Compare(a, b)
			nat.Bits(a)
			nat.Small(a)
			nat.Decimal(a)
			return nil
		}},
		{"Of, Parse", func(a, _ api.Nat) []api.Nat {
			n, _ := nat.Small(a)
			out, _ := nat.Parse(nat.Decimal(a))
			return []api.Nat{nat.Of(n), out}
		}},
		shift(0), shift(1), shift(32), shift(65536), shift(-1), shift(-32), shift(-65536), shift(65537),
	}
}

// held answers a number with words behind its length in its memory.
func held(a api.Nat) api.Nat {
	whole := append(slices.Clone(a), 0xDEAD, 0xBEEF, 0, 1)
	return whole[:len(a)]
}

// whole answers a number with all that its memory has room for.
func whole(a api.Nat) api.Nat { return a[:cap(a)] }

// spoil writes over all the memory of a number, and grows it.
func spoil(a api.Nat) {
	for i := range whole(a) {
		whole(a)[i] = 0xA5A5A5A5
	}
	_ = append(a, 1, 2, 3)
}

// copies answers the numbers of a list in memory of their own.
func copies(list []api.Nat) []api.Nat {
	var out []api.Nat
	for _, a := range list {
		out = append(out, slices.Clone(a))
	}
	return out
}

func sameLists(a, b []api.Nat) bool {
	return slices.EqualFunc(a, b, func(x, y api.Nat) bool { return slices.Equal(x, y) })
}

func TestWhatIsHandedInStays(t *testing.T) {
	for _, c := range calls() {
		pairs(t, func(x, y api.Nat) bool {
			a, b := held(x), held(y)
			wasA, wasB := slices.Clone(whole(a)), slices.Clone(whole(b))
			for _, out := range c.do(a, b) {
				spoil(out)
			}
			ok := slices.Equal(whole(a), wasA) && slices.Equal(whole(b), wasB)
			if !ok {
				t.Error(c.name)
			}
			return ok
		})
	}
}

func TestWhatIsAnsweredIsNew(t *testing.T) {
	for _, c := range calls() {
		pairs(t, func(x, y api.Nat) bool {
			a, b := held(x), held(y)
			first := c.do(a, b)
			was := copies(first)
			second := c.do(a, b)
			ok := sameLists(second, was)
			for _, out := range second {
				spoil(out)
			}
			spoil(a)
			spoil(b)
			ok = ok && sameLists(first, was)
			for i := range first {
				spoil(first[i])
				ok = ok && sameLists(first[i+1:], was[i+1:])
			}
			if !ok {
				t.Error(c.name)
			}
			return ok
		})
	}
}

// What lies behind a number's length counts for nothing, though it is in the same memory.
func TestWhatLiesBehindIsNotRead(t *testing.T) {
	for _, c := range calls() {
		pairs(t, func(a, b api.Nat) bool {
			ok := sameLists(c.do(held(a), held(b)), c.do(slices.Clip(slices.Clone(a)), slices.Clip(slices.Clone(b))))
			if !ok {
				t.Error(c.name)
			}
			return ok
		})
	}
}

// The same number handed in twice is two numbers.
func TestOneNumberTwice(t *testing.T) {
	for _, a := range pool() {
		b := slices.Clone(a)
		for _, c := range calls() {
			want := c.do(a, b)
			if !sameLists(c.do(a, a), want) || !slices.Equal(a, b) {
				t.Errorf("%s of %s and itself", c.name, show(a))
			}
		}
	}
}
