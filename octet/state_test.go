package octet_test

import (
	"math"
	"slices"
	"testing"

	"retort/api"
	"retort/octet"
)

// P2.3

func TestErrAndLeftOfANewReader(t *testing.T) {
	for _, n := range []int{0, 1, 2, 100, 100000} {
		if r := octet.New(make([]byte, n)); r.Err() != api.OK || r.Left() != n {
			t.Errorf("of %d bytes: %d, %d left", n, r.Err(), r.Left())
		}
	}
}

// silent says whether a reader behind its error answers nothing, reads nothing and keeps that error.
func silent(r *octet.Reader, e api.Errno, left int) bool {
	for range 2 {
		for _, most := range []int{math.MaxInt, 127, 1, 0, -1, math.MinInt} {
			if r.Num(most) != 0 || r.Err() != e || r.Left() != left {
				return false
			}
		}
		if r.Signed() != 0 || r.Err() != e || r.Left() != left {
			return false
		}
		if len(r.Row()) != 0 || r.Err() != e || r.Left() != left {
			return false
		}
	}
	return true
}

func TestTheFirstErrorStays(t *testing.T) {
	for _, c := range []struct {
		what string
		b    []byte
		read func(r *octet.Reader)
		e    api.Errno
		left int
	}{
		{"a number above the most, then right ones", []byte{5, 1, 1, 2, 3}, func(r *octet.Reader) { r.Num(4) }, api.ErrForm, 5},
		{"no number asked for", []byte{5, 1, 1, 2, 3}, func(r *octet.Reader) { r.Num(-1) }, api.ErrForm, 5},
		{"a number cut", []byte{0x81}, func(r *octet.Reader) { r.Num(300) }, api.ErrMore, 1},
		{"no bytes for a number", nil, func(r *octet.Reader) { r.Num(0) }, api.ErrMore, 0},
		{"no bytes for a signed number", nil, func(r *octet.Reader) { r.Signed() }, api.ErrMore, 0},
		{"no bytes for a row", nil, func(r *octet.Reader) { r.Row() }, api.ErrMore, 0},
		{"a signed number with a last byte of 0", []byte{0x80, 0, 7}, func(r *octet.Reader) { r.Signed() }, api.ErrForm, 3},
		{"a row with a wrong node, then right ones", []byte{1, 0x80, 2, 1, 1, 2, 3}, func(r *octet.Reader) { r.Row() }, api.ErrForm, 6},
		{"a row of too many nodes", append([]byte{0x81, 0x20}, 5, 6, 7), func(r *octet.Reader) { r.Row() }, api.ErrForm, 5},
		{"a row that is cut", []byte{2, 1, 0, 0, 1}, func(r *octet.Reader) { r.Row() }, api.ErrMore, 0},
		{"a row that is cut within a number", []byte{2, 1, 0, 0, 1, 0x80}, func(r *octet.Reader) { r.Row() }, api.ErrMore, 1},
		{"a right number, then one above the most", []byte{3, 3, 0}, func(r *octet.Reader) { r.Num(3); r.Num(2) }, api.ErrForm, 2},
	} {
		r := octet.New(c.b)
		c.read(r)
		if r.Err() != c.e || r.Left() != c.left || !silent(r, c.e, c.left) {
			t.Errorf("%s: %d, %d left", c.what, r.Err(), r.Left())
		}
	}
}

// Whether there is an error may be asked at any time: it changes nothing.
func TestAskingChangesNothing(t *testing.T) {
	r := octet.New([]byte{1, 2, 3})
	for want := 1; want <= 3; want++ {
		for range 3 {
			if r.Err() != api.OK || r.Left() != 4-want {
				t.Fatalf("ahead of %d: %d, %d left", want, r.Err(), r.Left())
			}
		}
		if r.Num(9) != want {
			t.Fatalf("not %d", want)
		}
	}
}

func TestReadersApart(t *testing.T) {
	b := []byte{1, 2, 3}
	r, s := octet.New(b), octet.New(b)
	r.Num(-1)
	if s.Err() != api.OK || s.Num(9) != 1 || s.Num(9) != 2 || s.Left() != 1 || r.Left() != 3 {
		t.Error("one reader minds the other")
	}
}

// P2.4

// held answers bytes with others behind their length in their memory.
func held(b []byte) []byte {
	whole := append(slices.Clone(b), 0xde, 0xad, 0xbe, 0xef, 0xde, 0xad, 0xbe, 0xef, 0xde, 0xad, 0xbe, 0xef)
	return whole[:len(b)]
}

// heldRow answers a row with nodes behind its length in its memory.
func heldRow(t api.Term) api.Term {
	whole := append(slices.Clone(t), api.Node{Op: 9, A: 9, B: 9}, api.Node{Op: 256, A: -1, B: -1})
	return whole[:len(t)]
}

// whole answers a list with all that its memory has room for.
func whole[T any](list []T) []T { return list[:cap(list)] }

// spoil writes over all the memory of a list, and grows it.
func spoil[T any](list []T, with T) {
	for i := range whole(list) {
		whole(list)[i] = with
	}
	_ = append(list, with, with, with)
}

// puts are the calls that answer bytes behind bytes.
func puts() map[string]func(b []byte, numbers []int, row api.Term) []byte {
	return map[string]func(b []byte, numbers []int, row api.Term) []byte{
		"Put": func(b []byte, numbers []int, _ api.Term) []byte {
			out, _ := octet.Put(b, numbers...)
			return out
		},
		"Put of nothing": func(b []byte, _ []int, _ api.Term) []byte {
			out, _ := octet.Put(b)
			return out
		},
		"Put of a wrong list": func(b []byte, _ []int, _ api.Term) []byte {
			out, _ := octet.Put(b, 1, 2, -1)
			return out
		},
		"Signed": func(b []byte, numbers []int, _ api.Term) []byte { return octet.Signed(b, -numbers[1]) },
		"Row": func(b []byte, _ []int, row api.Term) []byte {
			out, _ := octet.Row(b, row)
			return out
		},
		"Row of a wrong node": func(b []byte, _ []int, row api.Term) []byte {
			out, _ := octet.Row(b, append(slices.Clone(row), api.Node{Op: 1, A: 1, B: -1}))
			return out
		},
	}
}

func TestWhatIsPutStays(t *testing.T) {
	for name, put := range puts() {
		for _, bytes := range [][]byte{nil, {}, {5}, {1, 0x80, 3, 4}, make([]byte, 300)} {
			for _, nodes := range rows() {
				b, numbers, row := held(bytes), naturals(), heldRow(nodes)
				wasB, wasRow := slices.Clone(whole(b)), slices.Clone(whole(row))
				out := put(b, numbers, row)
				was := slices.Clone(out)
				again := put(b, numbers, row)
				spoil(again, 0xa5)
				if !slices.Equal(whole(b), wasB) || !slices.Equal(whole(row), wasRow) || !slices.Equal(numbers, naturals()) {
					t.Errorf("%s changes what is handed in", name)
				}
				spoil(b, 0x5a)
				spoil(row, api.Node{Op: 7, A: 7, B: 7})
				spoil(numbers, 7)
				if !slices.Equal(out, was) {
					t.Errorf("%s answers memory that is not its own", name)
				}
			}
		}
	}
}

// What is written into the bytes behind New is not seen, nor what lies behind their length.
func TestReaderKeepsItsBytes(t *testing.T) {
	wide := row(20)
	b := held(slices.Concat(form(300), signedForm(-5), rowForm(wide), form(7)))
	was := slices.Clone(whole(b))
	r := octet.New(b)
	if r.Num(300) != 300 || !slices.Equal(whole(b), was) {
		t.Error("the first number")
	}
	spoil(b, 0)
	if r.Signed() != -5 || !slices.Equal(r.Row(), wide) || r.Num(7) != 7 || r.Err() != api.OK || r.Left() != 0 {
		t.Errorf("what was written behind New is seen: %d, %d left", r.Err(), r.Left())
	}
	if r.Num(255) != 0 || r.Err() != api.ErrMore {
		t.Error("what lies behind the bytes is read")
	}
	if slices.ContainsFunc(whole(b), func(x byte) bool { return x != 0 }) {
		t.Error("the reader changes what was handed in")
	}
}

func TestRowsReadAreNew(t *testing.T) {
	nodes := row(33)
	b := held(slices.Concat(rowForm(nodes), rowForm(nodes), rowForm(nodes)))
	was := slices.Clone(whole(b))
	r := octet.New(b)
	first := r.Row()
	second := r.Row()
	spoil(first, api.Node{Op: 9, A: 9, B: 9})
	if third := r.Row(); !slices.Equal(second, nodes) || !slices.Equal(third, nodes) || r.Err() != api.OK {
		t.Error("two rows share memory")
	}
	if !slices.Equal(whole(b), was) {
		t.Error("the reader changes what was handed in")
	}
	if s := octet.New(b); !slices.Equal(s.Row(), nodes) {
		t.Error("another reader of the same bytes sees what was written")
	}
}
