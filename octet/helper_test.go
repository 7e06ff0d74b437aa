package octet_test

import (
	"encoding/hex"
	"math"
	"math/big"
	"slices"

	"retort/api"
)

// formOf tells a number's form as the chapter puts it, by math/big's reckoning: its bits seven at a time, the lowest first; all but the last byte have 128 more.
func formOf(n *big.Int) []byte {
	var out []byte
	rest := new(big.Int).Set(n)
	for {
		group := new(big.Int)
		rest.QuoRem(rest, big.NewInt(128), group)
		if rest.Sign() == 0 {
			return append(out, byte(group.Int64()))
		}
		out = append(out, byte(128+group.Int64()))
	}
}

// form tells the form of an int from 0 on.
func form(n int) []byte { return formOf(big.NewInt(int64(n))) }

// signedForm tells the form of 2n for n from 0 on, of -2n - 1 for n below 0.
func signedForm(n int) []byte {
	folded := new(big.Int).Mul(big.NewInt(int64(n)), big.NewInt(2))
	if n < 0 {
		folded.Neg(folded)
		folded.Sub(folded, big.NewInt(1))
	}
	return formOf(folded)
}

// rowForm tells the form of a row.
func rowForm(t api.Term) []byte {
	out := form(len(t))
	for _, node := range t {
		out = slices.Concat(out, form(node.Op), form(node.A), form(node.B))
	}
	return out
}

// naturals are numbers from 0 on at the edges: the powers of 2 and their neighbours, up to the greatest; a form becomes a byte longer at some.
func naturals() []int {
	list := []int{0, 300, 1000000, math.MaxInt}
	for k := range 63 {
		list = append(list, 1<<k-1, 1<<k, 1<<k+1)
	}
	return list
}

// integers are the naturals, and their like below 0 down to the least number.
func integers() []int {
	list := naturals()
	for _, n := range naturals() {
		list = append(list, -n, -n-1)
	}
	return list
}

// rows are right rows at the edges.
func rows() []api.Term {
	return []api.Term{
		nil,
		{},
		{{}},
		{{Op: 255, A: 1 << 20, B: 1 << 20}},
		{{Op: api.OpVar, A: 200}},
		{{Op: 127, A: 127, B: 127}, {Op: 128, A: 128, B: 128}, {Op: 1, A: 16383, B: 16384}},
		{{Op: 254, A: 1<<20 - 1, B: 0}, {Op: 0, A: 0, B: 1<<20 - 1}, {Op: 0, A: 1 << 20, B: 0}, {Op: 3, A: 2, B: 1}},
		row(127), row(128), row(api.MaxTerm - 1), row(api.MaxTerm),
	}
}

// row makes a row of so many nodes, no two that follow one another the same.
func row(n int) api.Term {
	t := make(api.Term, n)
	for i := range t {
		t[i] = api.Node{Op: i % 256, A: i * 37 % (1<<20 + 1), B: i * i % (1<<20 + 1)}
	}
	return t
}

func show(b []byte) string {
	if len(b) > 24 {
		return hex.EncodeToString(b[:24]) + ".."
	}
	return hex.EncodeToString(b)
}
