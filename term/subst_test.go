package term_test

import (
	"math"
	"slices"
	"testing"

	"retort/api"
	"retort/term"
)

const top = 1 << 20

// answers says whether a call has that answer, and no row beside an error.
func answers(t *testing.T, what string, got api.Term, e api.Errno, want api.Term, wantE api.Errno) {
	t.Helper()
	if e != wantE || !slices.Equal(got, want) {
		if len(got) > 40 {
			got = got[:40]
		}
		t.Errorf("%s: %v, %d", what, got, e)
	}
}

// wrongRow is a row with the error that Shape has of it.
type wrongRow struct {
	row api.Term
	e   api.Errno
}

func wrongRows() []wrongRow {
	return []wrongRow{
		{nil, api.ErrShape}, {api.Term{}, api.ErrShape}, {api.Term{app, v(0)}, api.ErrShape}, {api.Term{v(0), v(0)}, api.ErrShape},
		{api.Term{atom(0, 0)}, api.ErrShape}, {api.Term{fun(0)}, api.ErrShape}, {api.Term{v(top + 1)}, api.ErrShape},
		{api.Term{fix(0, 2), fun(0), v(0), v(0)}, api.ErrShape}, {make(api.Term, 4096), api.ErrShape},
		{sized(4097), api.ErrBig}, {make(api.Term, 5000), api.ErrBig},
	}
}

// P4.3

func TestLift(t *testing.T) {
	under := api.Term{let, v(0), v(1), app, v(0), app, v(1), v(2)}
	fixed := api.Term{fix(1, 2), fun(0), v(0), app, v(1), v(2), fun(1), pi, v(1), v(1), lam, v(1), app, v(2), v(3)}
	for _, c := range []struct {
		row      api.Term
		by, from int
		want     api.Term
	}{
		{api.Term{lam, v(0), v(1)}, 2, 0, api.Term{lam, v(2), v(3)}},
		{api.Term{lam, v(0), v(1)}, 2, 1, api.Term{lam, v(0), v(1)}},
		{api.Term{lam, v(0), v(2)}, 2, 1, api.Term{lam, v(0), v(4)}},
		{api.Term{app, v(4), app, v(5), v(6)}, 3, 5, api.Term{app, v(4), app, v(8), v(9)}},
		{under, 10, 0, api.Term{let, v(10), v(11), app, v(0), app, v(11), v(12)}},
		{under, 10, 1, api.Term{let, v(0), v(11), app, v(0), app, v(1), v(12)}},
		{fixed, 7, 0, api.Term{fix(1, 2), fun(0), v(7), app, v(1), v(9), fun(1), pi, v(8), v(8), lam, v(1), app, v(2), v(10)}},
		{fixed, 7, 1, api.Term{fix(1, 2), fun(0), v(0), app, v(1), v(2), fun(1), pi, v(8), v(1), lam, v(1), app, v(2), v(3)}},
		{api.Term{match(1), v(0), v(1), v(2)}, 1, 1, api.Term{match(1), v(0), v(2), v(3)}},
		{api.Term{{Op: api.OpCtor, A: 3, B: 4}}, 9, 0, api.Term{{Op: api.OpCtor, A: 3, B: 4}}},
		{api.Term{sort(2), atom(0, 3), atom(1, 4)}, 9, 0, api.Term{sort(2), atom(0, 3), atom(1, 4)}},
	} {
		got, e := term.Lift(c.row, c.by, c.from)
		answers(t, "Lift", got, e, c.want, api.OK)
		got, e = term.Lift(c.row, 0, c.from)
		answers(t, "Lift by 0", got, e, c.row, api.OK)
	}
}

func TestLiftToTheTop(t *testing.T) {
	for _, c := range []struct {
		row      api.Term
		by, from int
		e        api.Errno
	}{
		{api.Term{v(top)}, 0, 0, api.OK},
		{api.Term{v(top)}, 1, 0, api.ErrLarge},
		{api.Term{v(top)}, 1, top, api.ErrLarge},
		{api.Term{v(top)}, 1, top + 1, api.OK},
		{api.Term{v(top)}, math.MaxInt, top + 1, api.OK},
		{api.Term{v(top - 1)}, 1, 0, api.OK},
		{api.Term{v(top - 1)}, 2, 0, api.ErrLarge},
		{api.Term{lam, v(0), v(top)}, 1, 0, api.ErrLarge}, // it is the node's number that may not be beyond, whatever the binders
		{api.Term{lam, v(0), v(top)}, 1, top - 1, api.ErrLarge},
		{api.Term{lam, v(0), v(top)}, 1, top, api.OK},
		{api.Term{lam, v(0), v(0)}, top, 0, api.OK},
		{api.Term{lam, v(0), v(1)}, top, 0, api.ErrLarge},
		{api.Term{lam, v(0), v(1)}, top, 1, api.OK},
		{api.Term{v(0)}, top, 0, api.OK},
		{api.Term{v(0)}, top + 1, 0, api.ErrLarge},
		{api.Term{v(0)}, math.MaxInt, 0, api.ErrLarge},
		{api.Term{v(top)}, math.MaxInt, 0, api.ErrLarge},
		{api.Term{v(5)}, math.MaxInt, 6, api.OK},
		{api.Term{v(5)}, math.MaxInt, math.MaxInt, api.OK},
		{api.Term{ind}, math.MaxInt, 0, api.OK},
		{api.Term{lam, ind, v(0)}, math.MaxInt, 0, api.OK},
		{sized(4096), math.MaxInt, 0, api.OK},
	} {
		got, e := term.Lift(c.row, c.by, c.from)
		want, wantE := lift(c.row, c.by, c.from)
		answers(t, "Lift", got, e, want, wantE)
		if e != c.e {
			t.Errorf("Lift of %v by %d from %d: %d", c.row, c.by, c.from, e)
		}
	}
}

func TestLiftErrors(t *testing.T) {
	for _, w := range wrongRows() {
		for _, n := range []int{0, -1, math.MinInt, math.MaxInt} {
			got, e := term.Lift(w.row, n, n)
			answers(t, "Lift", got, e, nil, w.e)
		}
	}
	for _, n := range [][2]int{{-1, 0}, {0, -1}, {-1, -1}, {math.MinInt, 0}, {0, math.MinInt}, {math.MaxInt, -1}, {math.MinInt, math.MaxInt}} {
		got, e := term.Lift(api.Term{v(top)}, n[0], n[1])
		answers(t, "Lift", got, e, nil, api.ErrArg)
	}
}

// P4.4

func TestSubst(t *testing.T) {
	u := api.Term{app, v(0), lam, v(1), app, v(0), v(2)} // free: 0, 1, 1
	for _, c := range []struct {
		row, u api.Term
		at     int
		want   api.Term
	}{
		{api.Term{lam, v(0), app, v(0), v(1)}, api.Term{v(5)}, 0, api.Term{lam, v(5), app, v(0), v(6)}},
		{api.Term{app, v(0), app, v(1), v(2)}, api.Term{v(5)}, 0, api.Term{app, v(5), app, v(0), v(1)}},
		{api.Term{app, v(0), app, v(1), v(2)}, api.Term{v(5)}, 1, api.Term{app, v(0), app, v(6), v(1)}},
		{api.Term{app, v(0), app, v(1), v(2)}, api.Term{v(5)}, 2, api.Term{app, v(0), app, v(1), v(7)}},
		{api.Term{app, v(0), app, v(1), v(2)}, api.Term{v(5)}, 3, api.Term{app, v(0), app, v(1), v(2)}},
		{api.Term{v(0)}, u, 0, u},
		{api.Term{v(2)}, u, 2, api.Term{app, v(2), lam, v(3), app, v(0), v(4)}},
		{api.Term{pi, v(1), pi, v(2), v(3)}, u, 1, join(api.Term{pi, app, v(1), lam, v(2), app, v(0), v(3)}, api.Term{pi, app, v(2), lam, v(3), app, v(0), v(4)}, api.Term{app, v(3), lam, v(4), app, v(0), v(5)})},
		{api.Term{let, v(0), v(0), v(0)}, api.Term{v(3)}, 0, api.Term{let, v(3), v(3), v(0)}},
		{api.Term{let, v(1), v(1), v(1)}, api.Term{v(3)}, 0, api.Term{let, v(0), v(0), v(4)}},
		{api.Term{fix(0, 2), fun(0), v(0), v(2), fun(0), v(1), v(1)}, api.Term{v(7)}, 0, api.Term{fix(0, 2), fun(0), v(7), v(9), fun(0), v(0), v(1)}},
		{api.Term{fix(2, 4), fun(9), v(0), v(4), fun(1), v(0), v(3), fun(0), v(0), v(5), fun(0), v(1), v(6)}, api.Term{v(top - 4)}, 0, api.Term{fix(2, 4), fun(9), v(top - 4), v(top), fun(1), v(top - 4), v(3), fun(0), v(top - 4), v(4), fun(0), v(0), v(5)}},
		{api.Term{match(1), v(0), v(1), v(2)}, api.Term{ind}, 1, api.Term{match(1), v(0), ind, v(1)}},
		{api.Term{v(top)}, api.Term{v(0)}, top, api.Term{v(top)}},
		{api.Term{v(top)}, api.Term{v(1)}, top - 1, api.Term{v(top - 1)}},
		{api.Term{ind}, api.Term{v(top)}, 0, api.Term{ind}},
	} {
		got, e := term.Subst(c.row, c.u, c.at)
		answers(t, "Subst", got, e, c.want, api.OK)
		got, e = subst(c.row, c.u, c.at)
		answers(t, "the tree's", got, e, c.want, api.OK)
	}
}

// A variable of u may come to the top, and not beyond it; where u stands in no place, nothing of it counts.
func TestSubstToTheTop(t *testing.T) {
	for _, c := range []struct {
		row, u api.Term
		at     int
		e      api.Errno
	}{
		{api.Term{v(0)}, api.Term{v(top)}, 0, api.OK},
		{api.Term{v(1)}, api.Term{v(top)}, 1, api.ErrLarge},
		{api.Term{v(1)}, api.Term{v(top - 1)}, 1, api.OK},
		{api.Term{lam, v(3), v(1)}, api.Term{v(top)}, 0, api.ErrLarge},
		{api.Term{lam, v(3), v(1)}, api.Term{v(top - 1)}, 0, api.OK},
		{api.Term{lam, v(0), v(0)}, api.Term{v(top)}, 0, api.OK},
		{api.Term{lam, v(3), v(1)}, api.Term{lam, ind, v(top)}, 0, api.ErrLarge},
		{api.Term{lam, v(3), v(1)}, api.Term{lam, ind, v(0)}, 0, api.OK},
		{api.Term{v(top)}, api.Term{v(1)}, top, api.ErrLarge},
		{api.Term{v(top)}, api.Term{lam, ind, v(0)}, top, api.OK},
		{api.Term{v(5)}, api.Term{v(top)}, 4, api.OK},
		{api.Term{v(5)}, api.Term{v(top)}, 6, api.OK},
		{api.Term{v(top)}, api.Term{v(top)}, top + 1, api.OK},
		{api.Term{v(top)}, api.Term{v(top)}, math.MaxInt, api.OK},
		{api.Term{lam, v(0), v(top)}, api.Term{v(top)}, math.MaxInt - 1, api.OK},
	} {
		got, e := term.Subst(c.row, c.u, c.at)
		want, wantE := subst(c.row, c.u, c.at)
		answers(t, "Subst", got, e, want, wantE)
		if e != c.e {
			t.Errorf("Subst of %v, %v at %d: %d", c.row, c.u, c.at, e)
		}
	}
}

func TestSubstBySize(t *testing.T) {
	hole := func(n int) api.Term { return join(api.Term{app, v(0)}, sized(n-2)) }
	for _, c := range []struct {
		row, u api.Term
		nodes  int
	}{
		{api.Term{v(0)}, sized(4096), 4096},
		{hole(4096), sized(1), 4096},
		{hole(4096), sized(2), 4097},
		{hole(4095), sized(2), 4096},
		{hole(4095), sized(3), 4097},
		{api.Term{lam, v(0), v(1)}, sized(2047), 4095},
		{api.Term{lam, v(0), v(1)}, sized(2048), 4097},
		{api.Term{let, v(0), v(0), ind}, sized(2047), 4096},
		{api.Term{lam, ind, v(1)}, sized(4094), 4096},
		{api.Term{lam, ind, v(1)}, sized(4095), 4097},
		{hole(4096), sized(4096), 8191},
		{api.Term{lam, v(3), v(0)}, sized(4096), 3}, // u stands in no place
		{sized(4096), sized(4096), 4096},
	} {
		got, e := term.Subst(c.row, c.u, 0)
		if c.nodes > 4096 {
			answers(t, "Subst", got, e, nil, api.ErrBig)
			continue
		}
		want, _ := subst(c.row, c.u, 0)
		answers(t, "Subst", got, e, want, api.OK)
		if len(got) != c.nodes {
			t.Errorf("%d nodes for %d", len(got), c.nodes)
		}
	}
}

// Too many nodes and a variable beyond the top: whichever comes first in the row, it is the variable that is told.
func TestSubstLargeAheadOfBig(t *testing.T) {
	u := join(api.Term{app, v(top)}, sized(4094))
	first := api.Term{app, lam, ind, v(1), app, v(0), v(0)}
	last := api.Term{app, app, v(0), v(0), lam, ind, v(1)}
	for _, row := range []api.Term{first, last} {
		got, e := term.Subst(row, u, 0)
		answers(t, "Subst", got, e, nil, api.ErrLarge)
	}
	got, e := term.Subst(api.Term{app, app, v(0), v(0), v(0)}, u, 0)
	answers(t, "Subst", got, e, nil, api.ErrBig)
	many := append(slices.Repeat(api.Term{match(16)}, 200), slices.Repeat(api.Term{v(0)}, 200*17+1)...)
	got, e = term.Subst(many, u, 0)
	answers(t, "Subst", got, e, nil, api.ErrBig)
	many[len(many)-1] = v(1)
	got, e = term.Subst(append(api.Term{lam, v(0)}, many...), u, 0)
	answers(t, "Subst", got, e, nil, api.ErrLarge)
}

func TestSubstErrors(t *testing.T) {
	for _, w := range wrongRows() {
		for _, at := range []int{0, -1, math.MinInt} {
			got, e := term.Subst(w.row, api.Term{v(0)}, at)
			answers(t, "Subst of a wrong row", got, e, nil, w.e)
			got, e = term.Subst(api.Term{v(1)}, w.row, at)
			answers(t, "Subst of a wrong u", got, e, nil, w.e)
			for _, other := range wrongRows() {
				got, e = term.Subst(w.row, other.row, at)
				answers(t, "Subst of two wrong rows", got, e, nil, w.e)
			}
		}
	}
	for _, at := range []int{-1, -2, math.MinInt} {
		got, e := term.Subst(api.Term{v(0)}, api.Term{v(top)}, at)
		answers(t, "Subst below 0", got, e, nil, api.ErrArg)
	}
}

// Rows of all kinds, right ones mostly, against trees.
func TestLiftAndSubstOfMadeRows(t *testing.T) {
	d := dice(3)
	for i := range 20000 {
		row, u := d.term(4, 0), d.term(2, 0)
		if i%4 == 0 {
			row, u = d.broken(), d.broken()
		}
		by, from, at := d.below(3), d.below(4), d.below(4)
		if i%3 == 0 {
			by, from, at = d.wild(), d.wild(), d.wild()
		}
		got, e := term.Lift(row, by, from)
		want, wantE := lift(row, by, from)
		answers(t, "Lift", got, e, want, wantE)
		got, e = term.Subst(row, u, at)
		want, wantE = subst(row, u, at)
		answers(t, "Subst", got, e, want, wantE)
		if t.Failed() {
			t.Fatalf("of %v, %v, by %d, from %d, at %d", row, u, by, from, at)
		}
	}
}

// What is lifted by one at a place has nothing free there, and is as it was once something stands in that place.
func TestLiftAndSubstUndo(t *testing.T) {
	d := dice(4)
	for range 5000 {
		row, at := d.term(4, 0), d.below(4)
		up, e := term.Lift(row, 1, at)
		if e != api.OK {
			continue
		}
		back, e := term.Subst(up, api.Term{v(9)}, at)
		if e != api.OK || !slices.Equal(back, row) || term.Free(up, at) {
			t.Fatalf("%v at %d: %v, %v, %d", row, at, up, back, e)
		}
	}
}

// P4.5

func TestFreeAndBelow(t *testing.T) {
	row := api.Term{let, v(3), v(1), lam, v(2), fix(0, 2), fun(0), v(2), v(3), fun(0), v(7), v(10)} // free: 3, 1, 1, 0, 5, 6
	for n := -3; n < 12; n++ {
		if got, want := term.Free(row, n), slices.Contains([]int{0, 1, 3, 5, 6}, n); got != want {
			t.Errorf("Free of %d: %v", n, got)
		}
		if got := term.Below(row, n); got != (n > 6) {
			t.Errorf("Below %d: %v", n, got)
		}
	}
	for _, n := range []int{math.MinInt, math.MinInt + 1, -top, -1, 0, 1, math.MaxInt} {
		if !term.Below(api.Term{lam, ind, v(0)}, n) || term.Free(api.Term{lam, ind, v(0)}, n) {
			t.Errorf("of a closed term, %d", n)
		}
		if got := term.Below(api.Term{v(0)}, n); got != (n > 0) {
			t.Errorf("Below %d: %v", n, got)
		}
		if got := term.Free(api.Term{v(0)}, n); got != (n == 0) {
			t.Errorf("Free %d: %v", n, got)
		}
	}
	if !term.Free(api.Term{v(top)}, top) || term.Below(api.Term{v(top)}, top) || !term.Below(api.Term{v(top)}, top+1) {
		t.Error("at the top")
	}
	if !term.Free(api.Term{lam, v(4), v(4)}, 3) || !term.Free(api.Term{lam, v(4), v(4)}, 4) || term.Free(api.Term{lam, v(4), v(4)}, 5) {
		t.Error("under a binder and outside")
	}
}

func TestFreeAndBelowOfNoTerms(t *testing.T) {
	for _, w := range append(wrongRows(), wrongRow{api.Term{app, v(1), v(1), v(1)}, 0}, wrongRow{append(sized(4096), v(1)), 0}) {
		for _, n := range []int{math.MinInt, -1, 0, 1, 2, math.MaxInt} {
			if term.Free(w.row, n) || term.Below(w.row, n) {
				t.Errorf("%d nodes, %d", len(w.row), n)
			}
		}
	}
	if !term.Below(sized(4096), 0) {
		t.Error("of 4096 nodes")
	}
}

func TestFreeAndBelowOfMadeRows(t *testing.T) {
	d := dice(5)
	for range 20000 {
		row, n := d.broken(), d.below(6)
		told, e := shape(row)
		free, below := false, e == api.OK
		if below {
			list := told.free()
			free = slices.Contains(list, n)
			below = !slices.ContainsFunc(list, func(w int) bool { return w >= n })
		}
		if term.Free(row, n) != free || term.Below(row, n) != below {
			t.Fatalf("%v, %d: %v, %v", row, n, free, below)
		}
	}
}
