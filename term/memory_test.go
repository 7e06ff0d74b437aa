package term_test

import (
	"math"
	"slices"
	"testing"

	"retort/api"
	"retort/term"
)

// P4.7

// call is one of the package's calls, and what it answers: rows, and numbers.
type call struct {
	name string
	do   func(t, u api.Term, list []api.Term) ([]api.Term, []int)
}

func row(t api.Term, e api.Errno) ([]api.Term, []int) { return []api.Term{t}, []int{int(e)} }

func one(b bool) []int {
	if b {
		return []int{1}
	}
	return []int{0}
}

func calls() []call {
	return []call{
		{"Shape", func(t, _ api.Term, _ []api.Term) ([]api.Term, []int) { return nil, []int{int(term.Shape(t))} }},
		{"End", func(t, _ api.Term, _ []api.Term) ([]api.Term, []int) {
			return nil, []int{term.End(t, 0), term.End(t, 2)}
		}},
		{"Kids", func(t, _ api.Term, _ []api.Term) ([]api.Term, []int) { return term.Kids(t), nil }},
		{"Binders", func(t, _ api.Term, _ []api.Term) ([]api.Term, []int) { return nil, term.Binders(t) }},
		{"Lift", func(t, _ api.Term, _ []api.Term) ([]api.Term, []int) { return row(term.Lift(t, 1, 0)) }},
		{"Lift by 0", func(t, _ api.Term, _ []api.Term) ([]api.Term, []int) { return row(term.Lift(t, 0, 0)) }},
		{"Subst", func(t, u api.Term, _ []api.Term) ([]api.Term, []int) { return row(term.Subst(t, u, 0)) }},
		{"Subst in no place", func(t, u api.Term, _ []api.Term) ([]api.Term, []int) { return row(term.Subst(t, u, math.MaxInt)) }},
		{"Subst in a variable", func(_, u api.Term, _ []api.Term) ([]api.Term, []int) { return row(term.Subst(api.Term{v(0)}, u, 0)) }},
		{"Free", func(t, _ api.Term, _ []api.Term) ([]api.Term, []int) { return nil, one(term.Free(t, 1)) }},
		{"Below", func(t, _ api.Term, _ []api.Term) ([]api.Term, []int) { return nil, one(term.Below(t, 3)) }},
		{"Spine", func(t, _ api.Term, _ []api.Term) ([]api.Term, []int) {
			f, args := term.Spine(t)
			return append([]api.Term{f}, args...), nil
		}},
		{"Apply", func(t, _ api.Term, list []api.Term) ([]api.Term, []int) { return row(term.Apply(t, list...)) }},
		{"Apply to nothing", func(t, _ api.Term, list []api.Term) ([]api.Term, []int) { return row(term.Apply(t, list[:0]...)) }},
		{"Bind", func(t, _ api.Term, list []api.Term) ([]api.Term, []int) { return row(term.Bind(api.OpPi, list, t)) }},
		{"Bind over nothing", func(t, _ api.Term, list []api.Term) ([]api.Term, []int) {
			return row(term.Bind(api.OpLam, list[:0], t))
		}},
	}
}

// given is what calls are handed in: rows, and lists of rows, each with others behind its length in its memory.
type given struct {
	t, u api.Term
	list []api.Term
}

func held(t api.Term) api.Term { return join(t, api.Term{v(0), app, v(1), v(2)})[:len(t)] }

func whole(t api.Term) api.Term { return t[:cap(t)] }

func made(t, u api.Term, list []api.Term) given {
	g := given{held(t), held(u), nil}
	for _, row := range list {
		g.list = append(g.list, held(row))
	}
	g.list = append(g.list, api.Term{v(7)}, nil)[:len(list)]
	return g
}

// rows answers all rows that are given, with those behind the list's length.
func (g given) rows() []api.Term { return append([]api.Term{g.t, g.u}, g.list[:cap(g.list)]...) }

// copies answers the rows with what lies behind their lengths, in other memory.
func copies(rows []api.Term) []api.Term {
	var out []api.Term
	for _, t := range rows {
		out = append(out, slices.Clone(whole(t)))
	}
	return out
}

func stays(rows, was []api.Term) bool {
	return slices.EqualFunc(rows, was, func(a, b api.Term) bool { return slices.Equal(whole(a), b) })
}

// spoil writes over all the memory of a row, and grows it.
func spoil(t api.Term) {
	for i := range whole(t) {
		whole(t)[i] = api.Node{Op: 77, A: 77, B: 77}
	}
	_ = append(t, ind, ind, ind)
}

// clones answers the rows themselves in other memory.
func clones(rows []api.Term) []api.Term {
	var out []api.Term
	for _, t := range rows {
		out = append(out, slices.Clip(slices.Clone(t)))
	}
	return out
}

// givens makes what is handed in: right rows, and wrong ones now and then.
func givens(look func(t, u api.Term, list []api.Term)) {
	d := dice(7)
	for i := range 400 {
		t, u := d.term(3, 0), d.term(2, 0)
		if i%8 == 0 {
			t, u = d.broken(), d.broken()
		}
		look(t, u, []api.Term{d.term(1, 0), d.term(2, 0), d.leaf(0)})
	}
	look(sized(4096), api.Term{v(0)}, []api.Term{{v(0)}})
	look(join(api.Term{app, v(0)}, sized(4094)), sized(2), []api.Term{sized(1000)})
	look(sized(4097), nil, nil)
}

// What is handed in stays as it was, and what lies behind it is not read.
func TestWhatIsHandedInStays(t *testing.T) {
	givens(func(row, u api.Term, list []api.Term) {
		for _, c := range calls() {
			g := made(row, u, list)
			was := copies(g.rows())
			out, numbers := c.do(g.t, g.u, g.list)
			want, wantNumbers := c.do(slices.Clip(slices.Clone(row)), slices.Clip(slices.Clone(u)), clones(list))
			if !sameRows(out, want) || !slices.Equal(numbers, wantNumbers) {
				t.Errorf("%s of %v: what lies behind is read", c.name, row)
			}
			for _, t := range out {
				spoil(t)
			}
			if !stays(g.rows(), was) {
				t.Errorf("%s of %v: what is handed in is changed", c.name, row)
			}
		}
	})
}

// What is answered is new: other answers stay, too, and the rows of one share nothing.
func TestWhatIsAnsweredIsNew(t *testing.T) {
	givens(func(row, u api.Term, list []api.Term) {
		for _, c := range calls() {
			g := made(row, u, list)
			first, _ := c.do(g.t, g.u, g.list)
			was := clones(first)
			second, _ := c.do(g.t, g.u, g.list)
			ok := sameRows(second, was)
			for _, t := range append(second, g.rows()...) {
				spoil(t)
			}
			ok = ok && sameRows(first, was)
			for i, t := range first {
				spoil(t)
				ok = ok && sameRows(first[i+1:], was[i+1:])
			}
			if !ok {
				t.Errorf("%s of %v", c.name, row)
			}
		}
	})
}

// The numbers of Binders, and the list of Kids and of Spine, are new as well.
func TestListsAreNew(t *testing.T) {
	row := api.Term{app, app, v(0), v(1), v(2)}
	for _, list := range [][]api.Term{term.Kids(row), second(term.Spine(row))} {
		for i := range list[:cap(list)] {
			list[:cap(list)][i] = api.Term{ind}
		}
	}
	around := term.Binders(api.Term{pi, v(0), v(1)})
	for i := range around[:cap(around)] {
		around[:cap(around)][i] = 9
	}
	if !sameRows(term.Kids(row), []api.Term{{app, v(0), v(1)}, {v(2)}}) || !sameRows(second(term.Spine(row)), []api.Term{{v(1)}, {v(2)}}) || !slices.Equal(term.Binders(api.Term{pi, v(0), v(1)}), []int{0, 1}) {
		t.Error("an answer is kept")
	}
}

func second(_ api.Term, args []api.Term) []api.Term { return args }

// One row handed in several times is as many rows; so are pieces of one row.
func TestOneRowSeveralTimes(t *testing.T) {
	givens(func(row, u api.Term, _ []api.Term) {
		for _, c := range calls() {
			want, numbers := c.do(row, slices.Clone(row), []api.Term{slices.Clone(row), slices.Clone(row)})
			g := held(row)
			out, got := c.do(g, g, []api.Term{g, g})
			if !sameRows(out, want) || !slices.Equal(got, numbers) || !slices.Equal(g, row) {
				t.Errorf("%s of %v", c.name, row)
			}
		}
	})
	pieces := api.Term{lam, v(0), app, v(1), v(0), v(3)}
	got, e := term.Subst(pieces[:5], pieces[2:5], 0)
	answers(t, "Subst of pieces", got, e, api.Term{lam, app, v(1), v(0), app, app, v(2), v(1), v(0)}, api.OK)
	got, e = term.Apply(pieces[:5], pieces[2:5], pieces[5:], pieces[3:4])
	answers(t, "Apply of pieces", got, e, api.Term{app, app, app, lam, v(0), app, v(1), v(0), app, v(1), v(0), v(3), v(1)}, api.OK)
}

// P1

// Whatever is handed in: each call ends, has nothing beside an error, and a right row else.
func TestAnyArgument(t *testing.T) {
	d := dice(8)
	for range 20000 {
		rows := make([]api.Term, 3)
		for i := range rows {
			for range d.below(7) {
				rows[i] = append(rows[i], d.wildNode())
			}
		}
		for _, c := range calls() {
			out, numbers := c.do(rows[0], rows[1], rows[2:])
			for _, row := range out {
				if len(numbers) == 1 && numbers[0] != 0 && len(row) != 0 || len(row) != 0 && term.Shape(row) != api.OK {
					t.Fatalf("%s of %v: %v", c.name, rows, out)
				}
			}
		}
		term.End(rows[0], d.wild())
		term.Lift(rows[0], d.wild(), d.wild())
		term.Subst(rows[0], rows[1], d.wild())
		term.Free(rows[0], d.wild())
		term.Below(rows[0], d.wild())
		term.Bind(d.wild(), rows, rows[0])
	}
}
