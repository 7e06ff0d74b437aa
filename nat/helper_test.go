package nat_test

import (
	"math/big"
	"slices"
	"strconv"
	"testing"

	"retort/api"
)

// value tells what a row of words is worth, by math/big's reckoning.
func value(a api.Nat) *big.Int {
	v := new(big.Int)
	for i := len(a) - 1; i >= 0; i-- {
		v.Lsh(v, 32)
		v.Or(v, big.NewInt(int64(a[i])))
	}
	return v
}

// is says whether the answer is that number, without words 0 at its end.
func is(got api.Nat, want *big.Int) bool {
	return (len(got) == 0 || got[len(got)-1] != 0) && value(got).Cmp(want) == 0
}

// words says whether the answer has just these words.
func words(got api.Nat, want ...uint32) bool {
	return slices.Equal(got, want)
}

// show tells a number's words, of a long one the first.
func show(a api.Nat) string {
	s := strconv.Itoa(len(a)) + " words:"
	for i, w := range a {
		if i == 8 {
			return s + " .."
		}
		s += " " + strconv.FormatUint(uint64(w), 16)
	}
	return s
}

// dice is a short rule that makes words, the same ones each time.
type dice uint64

func (d *dice) word() uint32 {
	*d = *d*6364136223846793005 + 1442695040888963407
	return uint32(*d >> 33)
}

// edge makes a word: often one at an edge.
func (d *dice) edge() uint32 {
	edges := []uint32{0, 0, 1, 2, 0x7FFFFFFF, 0x80000000, 0x80000001, 0xFFFFFFFE, 0xFFFFFFFF, 0xFFFFFFFF}
	if i := int(d.word() >> 4 % 14); i < len(edges) {
		return edges[i]
	}
	return d.word()<<16 ^ d.word()
}

// number makes a number of so many words, with words 0 at its end now and then.
func (d *dice) number(n int) api.Nat {
	a := make(api.Nat, n)
	for i := range a {
		a[i] = d.edge()
	}
	return a
}

// edges are numbers at the edges: 0, words 0 at the end, 2^32 and 2^64 and their neighbours, greater ones.
func edges() []api.Nat {
	const most = 0xFFFFFFFF
	return []api.Nat{
		nil, {}, {0}, {0, 0, 0}, {1}, {1, 0}, {2}, {3, 0, 0, 0}, {5}, {7}, {17},
		{999999999}, {1000000000}, {0x7FFFFFFF}, {0x80000000}, {most - 1}, {most}, {most, 0},
		{0, 1}, {1, 1}, {0, 1, 0, 0}, {most, 1}, {0, 0x80000000}, {most, 0x7FFFFFFF}, {most - 1, most}, {most, most}, {most, most, 0},
		{0, 0, 1}, {1, 0, 1}, {1, 2, 3}, {0, most, 1}, {most, 0, most}, {0, 0, most}, {most, most, most},
		{0, 0, 0, 1}, {3, 0, 0x80000000}, {1, 0, 0x20000000}, {0, 0, 0x80000000, 0x7FFFFFFF}, {1, 0, 0x80000000},
		{0, most - 1, 0x80000000}, {most, 0x80000000}, {0, 0, 0, 0x80000000}, {most, most, most, most, 0, 0},
	}
}

// pool is the edges, and some made by dice.
func pool() []api.Nat {
	list := edges()
	d := dice(1)
	for n := range 14 {
		list = append(list, d.number(n), d.number(n))
	}
	return append(list, d.number(40), d.number(65))
}

// pairs goes through each pair of the pool.
func pairs(t *testing.T, look func(a, b api.Nat) bool) {
	t.Helper()
	for _, a := range pool() {
		for _, b := range pool() {
			if !look(a, b) {
				t.Errorf("of %s and %s", show(a), show(b))
			}
		}
	}
}
