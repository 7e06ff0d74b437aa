package octet_test

import (
	"bytes"
	"math"
	"slices"
	"testing"

	"retort/api"
	"retort/octet"
)

// P2.1

func TestPut(t *testing.T) {
	b, e := octet.Put(nil, 0, 127, 128, 300)
	if e != api.OK || !bytes.Equal(b, []byte{0x00, 0x7f, 0x80, 0x01, 0xac, 0x02}) {
		t.Errorf("%s, %d", show(b), e)
	}
	for _, n := range naturals() {
		if b, e := octet.Put(nil, n); e != api.OK || !bytes.Equal(b, form(n)) {
			t.Errorf("of %d: %s, %d", n, show(b), e)
		}
	}
}

func TestPutOfAList(t *testing.T) {
	ahead := []byte{9, 0x80, 0, 0xff}
	want := slices.Clone(ahead)
	for _, n := range naturals() {
		want = append(want, form(n)...)
	}
	if b, e := octet.Put(ahead, naturals()...); e != api.OK || !bytes.Equal(b, want) {
		t.Errorf("%s, %d", show(b), e)
	}
	for _, ahead := range [][]byte{nil, {}, {0}, {0x80}, {1, 2, 3}} {
		if b, e := octet.Put(ahead); e != api.OK || !bytes.Equal(b, ahead) {
			t.Errorf("%s and no number: %s, %d", show(ahead), show(b), e)
		}
	}
}

func TestPutOfNumbersBelowZero(t *testing.T) {
	for _, n := range []int{-1, -2, -127, -128, -1 << 32, math.MinInt + 1, math.MinInt} {
		for _, list := range [][]int{{n}, {n, 5}, {5, n}, {5, n, 6}, {n, n}, {math.MaxInt, 0, n}} {
			for _, ahead := range [][]byte{nil, {1, 2}} {
				if b, e := octet.Put(ahead, list...); e != api.ErrArg || len(b) != 0 {
					t.Errorf("of %v: %s, %d", list, show(b), e)
				}
			}
		}
	}
}

func TestSigned(t *testing.T) {
	for _, c := range []struct {
		n    int
		want []byte
	}{
		{0, []byte{0x00}}, {-1, []byte{0x01}}, {1, []byte{0x02}}, {-2, []byte{0x03}}, {63, []byte{0x7e}}, {-64, []byte{0x7f}}, {64, []byte{0x80, 1}}, {-65, []byte{0x81, 1}},
		{math.MinInt, []byte{0xff, 0xff, 0xff, 0xff, 0xff, 0xff, 0xff, 0xff, 0xff, 0x01}},
		{math.MaxInt, []byte{0xfe, 0xff, 0xff, 0xff, 0xff, 0xff, 0xff, 0xff, 0xff, 0x01}},
	} {
		if b := octet.Signed(nil, c.n); !bytes.Equal(b, c.want) {
			t.Errorf("of %d: %s", c.n, show(b))
		}
	}
	for _, n := range integers() {
		for _, ahead := range [][]byte{nil, {7, 0x80, 0}} {
			if b := octet.Signed(ahead, n); !bytes.Equal(b, slices.Concat(ahead, signedForm(n))) {
				t.Errorf("of %s and %d: %s", show(ahead), n, show(b))
			}
		}
	}
}

func TestRow(t *testing.T) {
	if b, e := octet.Row([]byte{9}, api.Term{{Op: 2, A: 1, B: 128}, {Op: 3}}); e != api.OK || !bytes.Equal(b, []byte{9, 2, 2, 1, 128, 1, 3, 0, 0}) {
		t.Errorf("%s, %d", show(b), e)
	}
	for _, row := range rows() {
		for _, ahead := range [][]byte{nil, {7, 0x80, 0}} {
			if b, e := octet.Row(ahead, row); e != api.OK || !bytes.Equal(b, slices.Concat(ahead, rowForm(row))) {
				t.Errorf("of %d nodes: %s, %d", len(row), show(b), e)
			}
		}
	}
}

// wrongNodes are nodes that have a number that is too small or too great, one each.
func wrongNodes() []api.Node {
	var list []api.Node
	for _, n := range []int{-1, -255, math.MinInt, 1<<20 + 1, 1 << 32, 1<<32 + 1, math.MaxInt} {
		list = append(list, api.Node{Op: n}, api.Node{A: n}, api.Node{B: n}, api.Node{Op: n, A: 1 << 20, B: 1 << 20}, api.Node{Op: 255, A: n, B: 1}, api.Node{Op: 255, A: 1, B: n})
	}
	return append(list, api.Node{Op: 256}, api.Node{Op: 257, A: 1, B: 1})
}

func TestRowOfWrongNodes(t *testing.T) {
	good := api.Node{Op: 255, A: 1 << 20, B: 1 << 20}
	for _, bad := range wrongNodes() {
		for _, row := range []api.Term{{bad}, {good, bad}, {bad, good}, {bad, bad}, append(row(api.MaxTerm-1), bad)} {
			if b, e := octet.Row([]byte{1, 2}, row); e != api.ErrArg || len(b) != 0 {
				t.Errorf("of %d nodes, one of them %v: %s, %d", len(row), bad, show(b), e)
			}
		}
	}
}

// A row of too many nodes is too big, be its nodes right or not.
func TestRowOfTooManyNodes(t *testing.T) {
	for _, n := range []int{api.MaxTerm + 1, api.MaxTerm + 2, 2 * api.MaxTerm, 1 << 16} {
		wrongFirst, wrongLast := row(n), row(n)
		wrongFirst[0].Op, wrongLast[n-1].B = 256, -1
		for _, row := range []api.Term{make(api.Term, n), row(n), wrongFirst, wrongLast} {
			if b, e := octet.Row([]byte{1, 2}, row); e != api.ErrBig || len(b) != 0 {
				t.Errorf("of %d nodes: %s, %d", n, show(b), e)
			}
		}
	}
}
