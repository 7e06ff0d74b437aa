package term_test

import (
	"math"
	"slices"
	"testing"

	"retort/api"
	"retort/term"
)

// P4.6

func TestSpine(t *testing.T) {
	c := api.Node{Op: api.OpConst, A: 3}
	for _, s := range []struct {
		row, f api.Term
		args   []api.Term
	}{
		{api.Term{app, app, c, v(0), v(1)}, api.Term{c}, []api.Term{{v(0)}, {v(1)}}},
		{api.Term{c}, api.Term{c}, nil},
		{api.Term{lam, app, v(0), v(1), app, v(2), v(3)}, api.Term{lam, app, v(0), v(1), app, v(2), v(3)}, nil},
		{api.Term{app, c, app, v(0), v(1)}, api.Term{c}, []api.Term{{app, v(0), v(1)}}},
		{api.Term{app, app, lam, v(9), app, v(8), v(7), app, v(0), v(1), sort(1), atom(0, 0)}, api.Term{lam, v(9), app, v(8), v(7)}, []api.Term{{app, v(0), v(1)}, {sort(1), atom(0, 0)}}},
		{api.Term{app, fix(0, 1), fun(0), v(0), v(1), v(2)}, api.Term{fix(0, 1), fun(0), v(0), v(1)}, []api.Term{{v(2)}}},
	} {
		f, args := term.Spine(s.row)
		if !slices.Equal(f, s.f) || !sameRows(args, s.args) {
			t.Errorf("of %v: %v, %v", s.row, f, args)
		}
		back, e := term.Apply(f, args...)
		answers(t, "Apply of a spine", back, e, s.row, api.OK)
	}
	long := append(append(slices.Repeat(api.Term{app}, 2047), ind), slices.Repeat(api.Term{v(4)}, 2047)...)
	if f, args := term.Spine(long); !slices.Equal(f, api.Term{ind}) || !sameRows(args, repeated(api.Term{v(4)}, 2047)) {
		t.Errorf("of many arguments: %v, %d", f, len(args))
	}
}

// Of a row that is made: f is no application, the arguments are terms, and there is but one such row.
func TestSpineOfMadeRows(t *testing.T) {
	d := dice(6)
	for range 20000 {
		row := d.broken()
		f, args := term.Spine(row)
		if term.Shape(row) != api.OK {
			if len(f)+len(args) != 0 {
				t.Fatalf("of %v: %v, %v", row, f, args)
			}
			continue
		}
		back, e := term.Apply(f, args...)
		if e != api.OK || !slices.Equal(back, row) || f[0].Op == api.OpApp {
			t.Fatalf("of %v: %v, %v", row, f, args)
		}
	}
}

func TestApply(t *testing.T) {
	f := api.Term{lam, v(0), v(1)}
	for _, c := range []struct {
		f    api.Term
		args []api.Term
		want api.Term
	}{
		{f, nil, f},
		{f, []api.Term{}, f},
		{f, []api.Term{{v(5)}}, join(api.Term{app}, f, api.Term{v(5)})},
		{f, []api.Term{{v(5)}, f, {ind}}, join(api.Term{app, app, app}, f, api.Term{v(5)}, f, api.Term{ind})},
		{api.Term{app, v(1), v(2)}, []api.Term{{v(3)}}, api.Term{app, app, v(1), v(2), v(3)}},
		{api.Term{app, v(1), v(2)}, nil, api.Term{app, v(1), v(2)}},
		{sized(4096), nil, sized(4096)},
		{sized(4094), []api.Term{{v(0)}}, join(api.Term{app}, sized(4094), api.Term{v(0)})},
		{api.Term{v(0)}, []api.Term{sized(4094)}, join(api.Term{app, v(0)}, sized(4094))},
		{sized(2), repeated(api.Term{v(0)}, 2047), join(slices.Repeat(api.Term{app}, 2047), sized(2), slices.Repeat(api.Term{v(0)}, 2047))},
	} {
		got, e := term.Apply(c.f, c.args...)
		answers(t, "Apply", got, e, c.want, api.OK)
	}
}

func TestApplyErrors(t *testing.T) {
	for _, w := range wrongRows() {
		got, e := term.Apply(w.row)
		answers(t, "Apply of a wrong row", got, e, nil, w.e)
		got, e = term.Apply(api.Term{v(0)}, sized(4096), w.row)
		answers(t, "Apply to a wrong row", got, e, nil, w.e)
		for _, other := range wrongRows() {
			got, e = term.Apply(w.row, other.row)
			answers(t, "the function's error", got, e, nil, w.e)
			got, e = term.Apply(api.Term{v(0)}, api.Term{v(0)}, w.row, other.row)
			answers(t, "the first argument's error", got, e, nil, w.e)
		}
	}
	for _, args := range [][]api.Term{{sized(4095)}, {sized(4096)}, {sized(2047), sized(2047)}, repeated(api.Term{v(0)}, 2048), repeated(api.Term{v(0)}, 1<<20), repeated(sized(4096), 1000)} {
		got, e := term.Apply(api.Term{v(0)}, args...)
		answers(t, "Apply of too much", got, e, nil, api.ErrBig)
	}
	got, e := term.Apply(sized(4095), api.Term{v(0)})
	answers(t, "Apply of too much", got, e, nil, api.ErrBig)
}

func TestBind(t *testing.T) {
	dom := api.Term{app, v(3), sort(1), atom(2, 2)}
	for _, n := range []api.Node{pi, lam} {
		for _, c := range []struct {
			doms []api.Term
			row  api.Term
			want api.Term
		}{
			{nil, dom, dom},
			{[]api.Term{}, api.Term{n, ind, v(0)}, api.Term{n, ind, v(0)}},
			{[]api.Term{{v(0)}}, api.Term{v(2)}, api.Term{n, v(0), v(2)}},
			{[]api.Term{{v(0)}, {v(1)}}, api.Term{v(2)}, api.Term{n, v(0), n, v(1), v(2)}},
			{[]api.Term{dom, {ind}, dom}, dom, join(api.Term{n}, dom, api.Term{n, ind, n}, dom, dom)},
			{nil, sized(4096), sized(4096)},
			{[]api.Term{{ind}}, sized(4094), join(api.Term{n, ind}, sized(4094))},
			{[]api.Term{sized(4094)}, api.Term{ind}, join(api.Term{n}, sized(4094), api.Term{ind})},
			{repeated(api.Term{ind}, 2047), sized(2), join(slices.Repeat(api.Term{n, ind}, 2047), sized(2))},
		} {
			got, e := term.Bind(n.Op, c.doms, c.row)
			answers(t, "Bind", got, e, c.want, api.OK)
		}
	}
}

func TestBindErrors(t *testing.T) {
	for _, op := range []int{math.MinInt, -5, -4, 0, 1, 2, 3, 6, 7, 8, 9, 10, 11, 12, 13, 14, 4 + 1<<32, math.MaxInt} {
		for _, row := range []api.Term{{v(0)}, nil, sized(4097)} {
			got, e := term.Bind(op, []api.Term{row}, row)
			answers(t, "Bind by no binder", got, e, nil, api.ErrArg)
		}
	}
	for _, op := range []int{api.OpPi, api.OpLam} {
		for _, w := range wrongRows() {
			got, e := term.Bind(op, nil, w.row)
			answers(t, "Bind around a wrong row", got, e, nil, w.e)
			got, e = term.Bind(op, []api.Term{sized(4096), w.row}, api.Term{v(0)})
			answers(t, "Bind over a wrong row", got, e, nil, w.e)
			for _, other := range wrongRows() {
				got, e = term.Bind(op, []api.Term{{v(0)}, w.row}, other.row)
				answers(t, "the domains' error", got, e, nil, w.e)
				got, e = term.Bind(op, []api.Term{{v(0)}, w.row, other.row}, api.Term{v(0)})
				answers(t, "the first domain's error", got, e, nil, w.e)
			}
		}
		for _, doms := range [][]api.Term{{sized(4095)}, {sized(4096)}, {sized(2047), sized(2047)}, repeated(api.Term{ind}, 2048), repeated(api.Term{ind}, 1<<20), repeated(sized(4096), 1000)} {
			got, e := term.Bind(op, doms, api.Term{v(0)})
			answers(t, "Bind of too much", got, e, nil, api.ErrBig)
		}
		got, e := term.Bind(op, []api.Term{{ind}}, sized(4095))
		answers(t, "Bind of too much", got, e, nil, api.ErrBig)
	}
}
