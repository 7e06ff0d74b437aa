package term_test

import (
	"math"
	"slices"
	"strconv"
	"testing"

	"retort/api"
	"retort/term"
)

// P4.1

// kind is a node with its bounds, and what must follow it when A and B are at their least or at most.
type kind struct {
	op, mostA, leastB, mostB int
	behind                   func(n api.Node) api.Term
}

// leaves answers what follows a node with so many kids.
func leaves(n int) func(api.Node) api.Term {
	return func(api.Node) api.Term { return slices.Repeat(api.Term{v(0)}, n) }
}

func atoms(n api.Node) api.Term {
	var t api.Term
	for i := range max(n.B, 0) {
		t = append(t, atom(i, i))
	}
	return t
}

func branches(n api.Node) api.Term { return leaves(2 + max(n.B, 0))(n) }

func functions(n api.Node) api.Term {
	return slices.Repeat(api.Term{fun(0), v(0), v(0)}, max(n.B, 0))
}

func kinds() []kind {
	return []kind{
		{api.OpVar, 1 << 20, 0, 0, leaves(0)},
		{api.OpSort, 1, 1, 4, atoms},
		{api.OpPi, 0, 0, 0, leaves(2)},
		{api.OpLam, 0, 0, 0, leaves(2)},
		{api.OpApp, 0, 0, 0, leaves(2)},
		{api.OpLet, 0, 0, 0, leaves(3)},
		{api.OpConst, 63, 0, 0, leaves(0)},
		{api.OpInd, 63, 0, 0, leaves(0)},
		{api.OpCtor, 63, 0, 15, leaves(0)},
		{api.OpMatch, 63, 0, 16, branches},
		{api.OpFix, 3, 1, 4, functions},
	}
}

// shapes says whether Shape and End answer that a row is a term, or that it is none.
func shapes(t *testing.T, row api.Term, ok bool) {
	t.Helper()
	want, end := api.ErrShape, -1
	if ok {
		want, end = api.OK, len(row)
	}
	if e := term.Shape(row); e != want {
		t.Errorf("%v: %d", row, e)
	}
	if got := term.End(row, 0); ok && got != end || !ok && got == len(row) {
		t.Errorf("%v: to its end at %d", row, got)
	}
}

func TestBoundsOfEachNode(t *testing.T) {
	for _, k := range kinds() {
		for _, a := range []int{math.MinInt, -1, 0, 1, k.mostA - 1, k.mostA, k.mostA + 1, math.MaxInt} {
			for _, b := range []int{math.MinInt, -1, k.leastB - 1, k.leastB, k.mostB - 1, k.mostB, k.mostB + 1} {
				n := api.Node{Op: k.op, A: a, B: b}
				ok := 0 <= a && a <= k.mostA && k.leastB <= b && b <= k.mostB && (k.op != api.OpFix || a < b)
				shapes(t, append(api.Term{n}, k.behind(n)...), ok)
			}
			n := api.Node{Op: k.op, A: a, B: math.MaxInt}
			shapes(t, append(api.Term{n}, v(0), v(0)), false)
		}
	}
	for _, op := range []int{math.MinInt, -12, -1, 0, 14, 15, 255, 256 + 1, math.MaxInt} {
		for n := range 4 {
			shapes(t, append(api.Term{{Op: op}}, leaves(n)(api.Node{})...), false)
		}
	}
}

// Each node with what must follow, with a node too few and with one too many.
func TestNodesTooFewAndTooMany(t *testing.T) {
	for _, k := range kinds() {
		for b := k.leastB; b <= k.mostB; b++ {
			n := api.Node{Op: k.op, B: b}
			row := append(api.Term{n}, k.behind(n)...)
			shapes(t, row, true)
			shapes(t, row[:len(row)-1], false)
			for _, more := range []api.Node{v(0), atom(16, 0), fun(0), ind, {}} {
				shapes(t, append(slices.Clone(row), more), false)
			}
		}
	}
	for _, n := range []api.Node{atom(0, 0), fun(0)} {
		shapes(t, api.Term{n}, false)
		for _, around := range []api.Term{{app, v(0)}, {lam, v(0)}, {match(0), v(0)}, {let, v(0), v(0)}, {fix(0, 1), fun(0), v(0)}, {fix(0, 1), fun(0)}} {
			shapes(t, join(around, api.Term{n}), false)
			shapes(t, join(around, api.Term{n, v(0)}), false)
		}
	}
}

func TestSorts(t *testing.T) {
	for _, c := range []struct {
		row api.Term
		ok  bool
	}{
		{api.Term{sort(1), atom(0, 0)}, true},
		{api.Term{{Op: api.OpSort, A: api.Prop, B: 1}, atom(0, 0)}, true},
		{api.Term{sort(1), atom(16, 1000)}, true},
		{api.Term{sort(1), atom(17, 0)}, false},
		{api.Term{sort(1), atom(-1, 0)}, false},
		{api.Term{sort(1), atom(0, 1001)}, false},
		{api.Term{sort(1), atom(0, -1)}, false},
		{api.Term{sort(4), atom(0, 9), atom(1, 5), atom(2, 7), atom(16, 0)}, true},
		{api.Term{sort(4), atom(0, 0), atom(1, 0), atom(2, 0)}, false},
		{api.Term{sort(5), atom(0, 0), atom(1, 0), atom(2, 0), atom(3, 0), atom(4, 0)}, false},
		{api.Term{sort(2), atom(0, 0), v(0)}, false},
		{api.Term{sort(2), v(0), atom(0, 0)}, false},
		{api.Term{sort(1), v(0)}, false},
		{api.Term{sort(1), fun(0)}, false},
		{api.Term{sort(1), sort(1), atom(0, 0)}, false},
		{api.Term{sort(2), atom(3, 0), atom(3, 1)}, false},
		{api.Term{sort(2), atom(3, 0), atom(2, 1)}, false},
		{api.Term{sort(3), atom(1, 0), atom(4, 0), atom(4, 0)}, false},
		{api.Term{sort(3), atom(1, 0), atom(4, 0), atom(0, 0)}, false},
		{api.Term{sort(2), atom(0, 0), atom(1, 0), atom(2, 0)}, false},
		{api.Term{app, sort(1), atom(5, 0), sort(2), atom(0, 0), atom(5, 0)}, true},
		{api.Term{app, sort(2), atom(5, 0), sort(1), atom(6, 0), atom(6, 0)}, false},
	} {
		shapes(t, c.row, c.ok)
	}
}

func TestFixes(t *testing.T) {
	for n := 1; n <= 4; n++ {
		for many := range 6 {
			for which := -1; which <= n; which++ {
				row := append(api.Term{fix(which, n)}, slices.Repeat(api.Term{fun(15), v(1), lam, v(0), v(0)}, many)...)
				shapes(t, row, many == n && 0 <= which && which < n)
			}
		}
	}
	for _, f := range []api.Node{fun(-1), fun(16), {Op: api.OpFun, B: 1}, {Op: api.OpFun, B: -1}, v(0), atom(0, 0)} {
		shapes(t, api.Term{fix(0, 1), f, v(0), v(0)}, false)
		shapes(t, api.Term{fix(0, 2), fun(0), v(0), v(0), f, v(0), v(0)}, false)
	}
	shapes(t, api.Term{fix(0, 1), fun(0), v(0)}, false)
	shapes(t, api.Term{fix(0, 1), fun(0), v(0), fun(0)}, false)
	shapes(t, api.Term{fix(0, 1), v(0), fun(0), v(0)}, false)
	shapes(t, api.Term{fix(0, 1), fun(0), fix(0, 1), fun(1), v(0), v(0), fix(0, 1), fun(2), v(0), v(0)}, true)
}

func TestShapeBySize(t *testing.T) {
	shapes(t, nil, false)
	shapes(t, api.Term{}, false)
	shapes(t, sized(4096), true)
	shapes(t, sized(4095), true)
	shapes(t, sized(4097)[:4096], false)
	shapes(t, append(sized(4095), ind), false)
	for _, row := range []api.Term{sized(4097), sized(4098), make(api.Term, 4097), make(api.Term, 100000), append(sized(4096), ind)} {
		if e := term.Shape(row); e != api.ErrBig {
			t.Errorf("%d nodes: %d", len(row), e)
		}
	}
	if e := term.Shape(make(api.Term, 4096)); e != api.ErrShape {
		t.Errorf("4096 nodes that are none: %d", e)
	}
}

func TestEnd(t *testing.T) {
	whole := api.Term{fun(3), {}, app, lam, v(7), v(0), sort(2), atom(0, 1), atom(3, 0), {Op: 99}, app, v(1)}
	for at, want := range []int{-1, -1, 9, 6, 5, 6, 9, -1, -1, -1, -1, 12, -1, -1} {
		if got := term.End(whole, at); got != want {
			t.Errorf("at %d: %d", at, got)
		}
	}
	for _, at := range []int{-1, -2, math.MinInt, math.MinInt + 1, 12, 13, math.MaxInt, math.MaxInt - 1} {
		if term.End(whole, at) != -1 || term.End(nil, at) != -1 || term.End(sized(5000), at-5000) != -1 {
			t.Errorf("at %d", at)
		}
	}
	if term.End(nil, 0) != -1 {
		t.Error("of no row")
	}
}

// A term in a row is as long as it is: MaxTerm is a bound of right rows alone. Rows that are no terms are nested deep before that shows.
func TestEndOfLongRows(t *testing.T) {
	long := join(make(api.Term, 3), sized(9001), make(api.Term, 5000))
	if got := term.End(long, 3); got != 9004 {
		t.Errorf("%d", got)
	}
	for _, n := range []api.Node{app, lam, let, match(16), fix(3, 4)} {
		row := slices.Repeat(api.Term{n}, 1<<18)
		if got := term.End(row, 0); got != -1 {
			t.Errorf("%v: %d", n, got)
		}
	}
	deep := append(slices.Repeat(api.Term{app}, 1<<16), slices.Repeat(api.Term{v(1)}, 1<<16+1)...)
	if got := term.End(deep, 0); got != len(deep) {
		t.Errorf("%d", got)
	}
}

// All rows of up to four nodes of these, and at each of their places, against trees.
func TestShapeOfAllShortRows(t *testing.T) {
	nodes := []api.Node{v(0), sort(1), sort(2), atom(1, 0), atom(2, 0), lam, app, let, match(0), match(1), fix(0, 1), fun(0), {}}
	var look func(row api.Term, more int)
	look = func(row api.Term, more int) {
		holds(t, row)
		if more == 0 {
			return
		}
		for _, n := range nodes {
			look(append(slices.Clip(row), n), more-1)
		}
	}
	look(nil, 4)
}

// holds holds Shape, and End at each place, against the tree.
func holds(t *testing.T, row api.Term) {
	t.Helper()
	if _, want := shape(row); term.Shape(row) != want {
		t.Errorf("%v: %d", row, term.Shape(row))
	}
	for at := -1; at <= len(row)+1; at++ {
		if _, end := parse(row, at); term.End(row, at) != end {
			t.Errorf("%v: from %d to %d", row, at, term.End(row, at))
		}
	}
}

func TestShapeOfMadeRows(t *testing.T) {
	d := dice(1)
	right := 0
	for range 20000 {
		row := d.broken()
		holds(t, row)
		if term.Shape(row) == api.OK {
			right++
		}
	}
	if right < 4000 || right > 16000 {
		t.Errorf("%d right rows", right)
	}
}

// P4.2

func TestKidsAndBinders(t *testing.T) {
	for _, c := range []struct {
		row    api.Term
		kids   []api.Term
		around []int
	}{
		{api.Term{v(3)}, nil, nil},
		{api.Term{sort(2), atom(0, 1), atom(1, 0)}, nil, nil},
		{api.Term{ind}, nil, nil},
		{api.Term{{Op: api.OpConst, A: 63}}, nil, nil},
		{api.Term{{Op: api.OpCtor, A: 63, B: 15}}, nil, nil},
		{api.Term{pi, ind, v(1)}, []api.Term{{ind}, {v(1)}}, []int{0, 1}},
		{api.Term{lam, lam, v(1), v(2), v(3)}, []api.Term{{lam, v(1), v(2)}, {v(3)}}, []int{0, 1}},
		{api.Term{app, v(1), app, v(2), v(3)}, []api.Term{{v(1)}, {app, v(2), v(3)}}, []int{0, 0}},
		{api.Term{let, v(1), v(2), v(3)}, []api.Term{{v(1)}, {v(2)}, {v(3)}}, []int{0, 0, 1}},
		{api.Term{match(0), v(1), v(2)}, []api.Term{{v(1)}, {v(2)}}, []int{0, 0}},
		{api.Term{match(2), v(1), v(2), lam, v(3), v(4), v(5)}, []api.Term{{v(1)}, {v(2)}, {lam, v(3), v(4)}, {v(5)}}, []int{0, 0, 0, 0}},
		{api.Term{fix(0, 1), fun(2), v(4), v(5)}, []api.Term{{v(4)}, {v(5)}}, []int{0, 1}},
		{api.Term{fix(1, 3), fun(0), v(1), v(2), fun(1), app, v(3), v(4), v(5), fun(2), v(6), sort(1), atom(0, 0)},
			[]api.Term{{v(1)}, {v(2)}, {app, v(3), v(4)}, {v(5)}, {v(6)}, {sort(1), atom(0, 0)}}, []int{0, 3, 0, 3, 0, 3}},
	} {
		if kids := term.Kids(c.row); !sameRows(kids, c.kids) {
			t.Errorf("Kids of %v: %v", c.row, kids)
		}
		if around := term.Binders(c.row); !slices.Equal(around, c.around) {
			t.Errorf("Binders of %v: %v", c.row, around)
		}
	}
	most := append(api.Term{match(16)}, branches(match(16))...)
	if kids, around := term.Kids(most), term.Binders(most); len(kids) != 18 || len(around) != 18 {
		t.Errorf("%d, %d", len(kids), len(around))
	}
}

func sameRows(a, b []api.Term) bool {
	return slices.EqualFunc(a, b, func(x, y api.Term) bool { return slices.Equal(x, y) })
}

func TestKidsOfMadeRows(t *testing.T) {
	d := dice(2)
	for range 20000 {
		row := d.broken()
		var kids []api.Term
		var around []int
		if told, e := shape(row); e == api.OK {
			around = told.around
			for _, kid := range told.kids {
				kids = append(kids, kid.row())
			}
		}
		if got := term.Kids(row); !sameRows(got, kids) {
			t.Fatalf("Kids of %v: %v", row, got)
		}
		if got := term.Binders(row); !slices.Equal(got, around) {
			t.Fatalf("Binders of %v: %v", row, got)
		}
	}
}

// Of rows that are not right, there are none: also of one that is a term, but for what is behind it or for its size.
func TestKidsOfNoTerms(t *testing.T) {
	for _, row := range []api.Term{nil, {}, {app, v(0)}, {app, v(0), v(1), v(2)}, {atom(0, 0)}, {fun(0), v(0), v(1)}, {v(-1)}, sized(4097), {app, v(0), atom(0, 0)}} {
		kids, around := term.Kids(row), term.Binders(row)
		f, args := term.Spine(row)
		if len(kids)+len(around)+len(f)+len(args) != 0 {
			t.Errorf("%s nodes: %v, %v, %v, %v", strconv.Itoa(len(row)), kids, around, f, args)
		}
	}
	if kids := term.Kids(sized(4096)); len(kids) != 2 || len(kids[1]) != 4094 {
		t.Errorf("of 4096 nodes: %d", len(kids))
	}
}
