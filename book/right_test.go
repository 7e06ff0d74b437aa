package book_test

import (
	"math"
	"slices"
	"testing"

	"retort/api"
	"retort/book"
)

// base answers a right book: numbers, lists, a definition, a family of two parameters and two indices with two constructors, a definition, and one more of each behind.
func base() api.Book {
	list := api.Entry{Kind: api.Family, Sort: slices.Clone(set), Params: []api.Term{slices.Clone(set)}, Ctors: []api.Ctor{{}, {Args: []api.Term{{v(0)}, {app, ind(1), v(1)}}}}}
	vec := api.Entry{
		Kind:    api.Family,
		Sort:    api.Term{sort(1, 2), atom(1, 0), atom(2, 5)},
		Params:  []api.Term{slices.Clone(set), {pi, v(0), ind(0)}},
		Indices: []api.Term{{ind(0)}, {app, v(2), v(0)}},
		Ctors: []api.Ctor{
			{Args: []api.Term{{ind(0)}, {app, ind(3), v(2)}}, Out: []api.Term{{ctor(0, 0)}, {v(3)}}},
			{Args: []api.Term{{ind(3)}}, Out: []api.Term{{app, ctor(0, 1), v(0)}, {ind(3)}}},
		},
	}
	def := func(e int) api.Entry {
		return api.Entry{Kind: api.Def, Type: api.Term{ind(0)}, Body: api.Term{ctor(0, e%2)}}
	}
	return api.Book{
		Vars:    2,
		Orders:  []api.Order{{Low: 1, Add: 1, High: 2}},
		Entries: []api.Entry{natAt(0), list, def(2), vec, def(4), {Kind: api.Family, Sort: slices.Clone(set), Ctors: make([]api.Ctor, 3)}, def(6)},
		Prims:   []api.Prim{{Entry: 4, Id: 2}, {Entry: 2, Id: 3}},
	}
}

// slot is a row of the base book: which entry's, how many variables it may name, whether it may name its family.
type slot struct {
	name   string
	at     int
	free   int
	itself bool
	row    func(b *api.Book) *api.Term
}

// slots are rows of the base book, in the order in which they are looked at.
func slots() []slot {
	vec := func(b *api.Book) *api.Entry { return &b.Entries[3] }
	return []slot{
		{"param 0", 3, 0, false, func(b *api.Book) *api.Term { return &vec(b).Params[0] }},
		{"param 1", 3, 1, false, func(b *api.Book) *api.Term { return &vec(b).Params[1] }},
		{"index 0", 3, 2, false, func(b *api.Book) *api.Term { return &vec(b).Indices[0] }},
		{"index 1", 3, 3, false, func(b *api.Book) *api.Term { return &vec(b).Indices[1] }},
		{"arg 0 of 0", 3, 2, true, func(b *api.Book) *api.Term { return &vec(b).Ctors[0].Args[0] }},
		{"arg 1 of 0", 3, 3, true, func(b *api.Book) *api.Term { return &vec(b).Ctors[0].Args[1] }},
		{"out 0 of 0", 3, 4, true, func(b *api.Book) *api.Term { return &vec(b).Ctors[0].Out[0] }},
		{"out 1 of 0", 3, 4, true, func(b *api.Book) *api.Term { return &vec(b).Ctors[0].Out[1] }},
		{"arg 0 of 1", 3, 2, true, func(b *api.Book) *api.Term { return &vec(b).Ctors[1].Args[0] }},
		{"out 0 of 1", 3, 3, true, func(b *api.Book) *api.Term { return &vec(b).Ctors[1].Out[0] }},
		{"out 1 of 1", 3, 3, true, func(b *api.Book) *api.Term { return &vec(b).Ctors[1].Out[1] }},
		{"type", 4, 0, false, func(b *api.Book) *api.Term { return &b.Entries[4].Type }},
		{"body", 4, 0, false, func(b *api.Book) *api.Term { return &b.Entries[4].Body }},
	}
}

// rowCase is a row, and what is wrong with it.
type rowCase struct {
	row api.Term
	e   api.Errno
}

func fault(ok bool) api.Errno {
	if ok {
		return api.OK
	}
	return api.ErrShape
}

// shapeCases are rows of the edges of layer 4, and those with variables around the bound.
func shapeCases(free int) []rowCase {
	list := []rowCase{
		{sized(4095), api.OK}, {sized(4096), api.OK}, {sized(4097), api.ErrBig}, {make(api.Term, 4097), api.ErrBig}, {make(api.Term, 4096), api.ErrShape}, {sized(10000), api.ErrBig},
		{nil, api.ErrShape}, {api.Term{}, api.ErrShape}, {api.Term{{}}, api.ErrShape}, {api.Term{ind(0), ind(0)}, api.ErrShape}, {api.Term{app, ind(0)}, api.ErrShape}, {api.Term{atom(0, 0)}, api.ErrShape},
		{api.Term{ind(-1)}, api.ErrShape}, {api.Term{con(64)}, api.ErrShape}, {api.Term{ctor(0, -1)}, api.ErrShape}, {api.Term{{Op: api.OpInd, B: 1}}, api.ErrShape}, {api.Term{match(1, 17)}, api.ErrShape},
	}
	for _, n := range []int{-1, 0, free - 1, free, free + 1, 1 << 20, 1<<20 + 1} {
		ok := 0 <= n && n < free
		list = append(list,
			rowCase{api.Term{v(n)}, fault(ok)},
			rowCase{api.Term{lam, ind(0), v(n + 1)}, fault(ok || n == -1)},
			rowCase{api.Term{pi, v(n), v(0)}, fault(ok)},
			rowCase{api.Term{let, ind(0), v(n), v(0)}, fault(ok)},
			rowCase{api.Term{app, ind(0), v(n)}, fault(ok)},
			rowCase{api.Term{{Op: api.OpFix, A: 1, B: 2}, {Op: api.OpFun}, ind(0), v(n + 2), {Op: api.OpFun}, ind(0), v(0)}, fault(ok || n == -1)},
			rowCase{api.Term{match(0, 1), ind(0), ind(0), v(n)}, fault(ok)},
		)
	}
	return list
}

// nameCases are rows that name universes and entries of the base book, of the entry at, which may name itself as a family or not.
func nameCases(at int, itself bool) []rowCase {
	b := base()
	var list []rowCase
	for w := range 5 {
		list = append(list, rowCase{api.Term{sort(0, 1), atom(w, 0)}, fault(w <= 2)}, rowCase{api.Term{pi, sort(1, 2), atom(0, 1), atom(w, 1000), ind(0)}, fault(0 < w && w <= 2)})
	}
	for e := range 64 {
		there := e < at && e < len(b.Entries)
		family := there && b.Entries[e].Kind == api.Family
		list = append(list,
			rowCase{api.Term{con(e)}, fault(there && !family)},
			rowCase{api.Term{ind(e)}, fault(family || itself && e == at)},
			rowCase{api.Term{lam, ind(e), ind(e)}, fault(family || itself && e == at)},
			rowCase{api.Term{match(e, 0), ind(0), ind(0)}, fault(family)},
			rowCase{join(api.Term{match(e, 16)}, slices.Repeat(api.Term{ind(0)}, 18)), fault(family)},
		)
		for k := range 16 {
			list = append(list, rowCase{api.Term{app, ctor(e, k), ind(0)}, fault(family && k < len(b.Entries[e].Ctors))})
		}
	}
	return list
}

// rights says whether Right answers that error.
func rights(t *testing.T, name string, b api.Book, want api.Errno) {
	t.Helper()
	if e := book.Right(b); e != want {
		t.Errorf("%s: %d, not %d", name, e, want)
	}
}

// turned answers the base book, changed.
func turned(turns ...func(b *api.Book)) api.Book {
	b := base()
	for _, turn := range turns {
		turn(&b)
	}
	return b
}

// P5.1

func TestRightOfRightBooks(t *testing.T) {
	rights(t, "base", base(), api.OK)
	rights(t, "nothing but no Nat", api.Book{Nat: -1}, api.OK)
	rights(t, "lists without elements", api.Book{Orders: []api.Order{}, Entries: []api.Entry{{Kind: api.Def, Sort: api.Term{}, Params: []api.Term{}, Indices: []api.Term{}, Ctors: []api.Ctor{}, Type: set, Body: set}}, Nat: -1, Prims: []api.Prim{}}, api.OK)
	rights(t, "lists of a family without elements", api.Book{Entries: []api.Entry{{Kind: api.Family, Sort: set, Params: []api.Term{}, Indices: []api.Term{}, Ctors: []api.Ctor{{Args: []api.Term{}, Out: []api.Term{}}}, Type: api.Term{}, Body: api.Term{}}}, Nat: -1}, api.OK)
	rights(t, "no book", api.Book{}, api.ErrPrim)
	d := dice(1)
	for range 2000 {
		if b := d.book(); book.Right(b) != api.OK || rightIs(b) != api.OK {
			t.Fatalf("%v: %d, by the chapter %d", b, book.Right(b), rightIs(b))
		}
	}
}

func TestRightOfUniverses(t *testing.T) {
	many := func(n int) []api.Order { return slices.Repeat([]api.Order{{Low: 1, Add: 1, High: 2}}, n) }
	for i, c := range []struct {
		vars   int
		orders []api.Order
		e      api.Errno
	}{
		{2, nil, api.OK}, {16, many(64), api.OK}, {2, []api.Order{{Low: 0, Add: 1000, High: 1}, {Low: 2, Add: -1000, High: 1}}, api.OK},
		{-1, nil, api.ErrArg}, {math.MinInt, nil, api.ErrArg}, {17, nil, api.ErrArg}, {math.MaxInt, nil, api.ErrArg}, {17, many(65), api.ErrArg},
		{2, many(65), api.ErrFull}, {2, make([]api.Order, 1000), api.ErrFull},
		{2, []api.Order{{Low: -1}}, api.ErrArg}, {2, []api.Order{{Low: 3}}, api.ErrArg}, {2, []api.Order{{High: 3}}, api.ErrArg}, {2, []api.Order{{High: -1}}, api.ErrArg},
		{2, []api.Order{{Low: 1, Add: 1001, High: 2}}, api.ErrArg}, {2, []api.Order{{Low: 1, Add: -1001, High: 2}}, api.ErrArg},
		{2, []api.Order{{Low: 1, Add: 1, High: 2}, {Low: 2, Add: 0, High: 1}}, api.ErrCycle}, {2, []api.Order{{Low: 1, Add: 1, High: 0}}, api.ErrCycle},
		{2, append(many(1), api.Order{Low: 2, High: 1}, api.Order{Low: 9}), api.ErrArg},
	} {
		b := turned(func(b *api.Book) { b.Vars, b.Orders = c.vars, c.orders })
		if e := book.Right(b); e != c.e {
			t.Errorf("%d: %d, not %d", i, e, c.e)
		}
	}
	rights(t, "a variable that an atom names is none", turned(func(b *api.Book) { b.Vars, b.Orders = 1, nil }), api.ErrShape)
}

func TestRightOfManyEntries(t *testing.T) {
	grown := func(n int) api.Book {
		return turned(func(b *api.Book) {
			for len(b.Entries) < n {
				b.Entries = append(b.Entries, api.Entry{Kind: api.Def, Type: set, Body: api.Term{con(len(b.Entries) - 1)}})
			}
		})
	}
	rights(t, "63", grown(63), api.OK)
	rights(t, "64", grown(64), api.OK)
	rights(t, "65", grown(65), api.ErrFull)
	rights(t, "65 that are none", turned(func(b *api.Book) { b.Entries = make([]api.Entry, 65) }), api.ErrFull)
	rights(t, "64 that are none", turned(func(b *api.Book) { b.Entries = make([]api.Entry, 64) }), api.ErrShape)
	last := grown(64)
	last.Entries[63].Body = api.Term{con(63)}
	rights(t, "the last names itself", last, api.ErrShape)
}

func TestRightOfKinds(t *testing.T) {
	for _, kind := range []int{math.MinInt, -1, 0, 3, 4, math.MaxInt} {
		for e := range base().Entries {
			rights(t, "kind", turned(func(b *api.Book) { b.Entries[e].Kind = kind }), api.ErrShape)
			rights(t, "kind of nothing", turned(func(b *api.Book) { b.Entries[e] = api.Entry{Kind: kind} }), api.ErrShape)
		}
	}
	rights(t, "a family as a definition", turned(func(b *api.Book) { b.Entries[5].Kind = api.Def }), api.ErrShape)
	rights(t, "a definition as a family", turned(func(b *api.Book) { b.Entries[6].Kind = api.Family }), api.ErrShape)
	rights(t, "an empty family", turned(func(b *api.Book) { b.Entries[5] = api.Entry{Kind: api.Family} }), api.ErrShape)
	rights(t, "an empty definition", turned(func(b *api.Book) { b.Entries[6] = api.Entry{Kind: api.Def} }), api.ErrShape)
	rights(t, "no constructors", turned(func(b *api.Book) { b.Entries[5].Ctors = nil }), api.OK)
}

func TestRightOfFieldsThatMustBeEmpty(t *testing.T) {
	for _, row := range []api.Term{set, {ind(0)}, {{}}, sized(4097)} {
		for name, turn := range map[string]func(b *api.Book){
			"a sort":              func(b *api.Book) { b.Entries[6].Sort = row },
			"params":              func(b *api.Book) { b.Entries[6].Params = []api.Term{row} },
			"17 params":           func(b *api.Book) { b.Entries[6].Params = slices.Repeat([]api.Term{row}, 17) },
			"a param of no nodes": func(b *api.Book) { b.Entries[6].Params = make([]api.Term, 1) },
			"indices":             func(b *api.Book) { b.Entries[6].Indices = []api.Term{row} },
			"an empty index":      func(b *api.Book) { b.Entries[6].Indices = make([]api.Term, 1) },
			"constructors":        func(b *api.Book) { b.Entries[6].Ctors = []api.Ctor{{Args: []api.Term{row}}} },
			"one of nothing":      func(b *api.Book) { b.Entries[6].Ctors = make([]api.Ctor, 1) },
			"17 constructors":     func(b *api.Book) { b.Entries[6].Ctors = make([]api.Ctor, 17) },
			"a type":              func(b *api.Book) { b.Entries[5].Type = row },
			"a body":              func(b *api.Book) { b.Entries[5].Body = row },
			"a type of numbers":   func(b *api.Book) { b.Entries[0].Type = row },
			"a body of numbers":   func(b *api.Book) { b.Entries[0].Body = row },
		} {
			rights(t, name, turned(turn), api.ErrShape)
		}
	}
}

func TestRightOfLongLists(t *testing.T) {
	rows := func(n int) []api.Term { return slices.Repeat([]api.Term{set}, n) }
	grow := func(f func(x *api.Entry, n int), n int) api.Book {
		return turned(func(b *api.Book) { f(&b.Entries[5], n) })
	}
	for name, f := range map[string]func(x *api.Entry, n int){
		"params":          func(x *api.Entry, n int) { x.Params = rows(n) },
		"constructors":    func(x *api.Entry, n int) { x.Ctors = make([]api.Ctor, n) },
		"args":            func(x *api.Entry, n int) { x.Ctors[2].Args = rows(n) },
		"args of a first": func(x *api.Entry, n int) { x.Ctors[0].Args = rows(n) },
		"indices": func(x *api.Entry, n int) {
			x.Indices = rows(n)
			for k := range x.Ctors {
				x.Ctors[k].Out = rows(n)
			}
		},
		"indices without constructors": func(x *api.Entry, n int) { x.Indices, x.Ctors = rows(n), nil },
		"params and indices": func(x *api.Entry, n int) {
			x.Params, x.Indices, x.Ctors = rows(n), rows(n), make([]api.Ctor, n)
			for k := range x.Ctors {
				x.Ctors[k] = api.Ctor{Args: rows(n), Out: rows(n)}
			}
		},
	} {
		rights(t, name, grow(f, 15), api.OK)
		rights(t, name, grow(f, 16), api.OK)
		rights(t, name, grow(f, 17), api.ErrFull)
		rights(t, name, grow(f, 300), api.ErrFull)
	}
}

// The bounds of the variables at their greatest: under 16 parameters and 16 arguments, or indices.
func TestRightUnderManyVariables(t *testing.T) {
	telescope := func(n, under int) []api.Term {
		list := []api.Term{}
		for i := range n {
			list = append(list, sized(1))
			if under+i > 0 {
				list[i] = api.Term{v(under + i - 1)}
			}
		}
		return list
	}
	full := api.Entry{Kind: api.Family, Sort: set, Params: telescope(16, 0), Indices: telescope(16, 16), Ctors: []api.Ctor{{Args: telescope(16, 16), Out: slices.Repeat([]api.Term{{v(31)}}, 16)}}}
	whole := func() api.Book {
		return clone(api.Program{Book: turned(func(b *api.Book) { b.Entries[5] = full })}).Book
	}
	rights(t, "full", whole(), api.OK)
	for i := range 16 {
		for _, turn := range []func(x *api.Entry) *api.Term{
			func(x *api.Entry) *api.Term { return &x.Params[i] },
			func(x *api.Entry) *api.Term { return &x.Indices[i] },
			func(x *api.Entry) *api.Term { return &x.Ctors[0].Args[i] },
			func(x *api.Entry) *api.Term { return &x.Ctors[0].Out[i] },
		} {
			b := whole()
			row := turn(&b.Entries[5])
			if (*row)[0].Op == api.OpInd {
				*row = api.Term{v(-1)}
			}
			(*row)[0].A++
			rights(t, "one above", b, api.ErrShape)
		}
	}
}

func TestRightOfOut(t *testing.T) {
	for k := range 2 {
		for _, out := range [][]api.Term{nil, {}, {{ind(0)}}, {{ind(0)}, {ind(0)}, {ind(0)}}, make([]api.Term, 1), make([]api.Term, 17), slices.Repeat([]api.Term{{ind(0)}}, 100)} {
			rights(t, "out", turned(func(b *api.Book) { b.Entries[3].Ctors[k].Out = out }), api.ErrShape)
		}
		rights(t, "out", turned(func(b *api.Book) { b.Entries[3].Ctors[k].Out = []api.Term{{ind(0)}, {ind(3)}} }), api.OK)
	}
	rights(t, "out without indices", turned(func(b *api.Book) { b.Entries[5].Ctors[1].Out = []api.Term{{ind(0)}} }), api.ErrShape)
}

func TestRightOfEachRow(t *testing.T) {
	for _, s := range slots() {
		for _, c := range append(shapeCases(s.free), nameCases(s.at, s.itself)...) {
			b := base()
			*s.row(&b) = c.row
			if e := book.Right(b); e != c.e || rightIs(b) != c.e {
				t.Errorf("%s, %v: %d, not %d", s.name, short(c.row), e, c.e)
			}
		}
	}
}

func TestRightOfSorts(t *testing.T) {
	for _, c := range []rowCase{
		{api.Term{sort(0, 1), atom(0, 0)}, api.OK}, {api.Term{sort(1, 3), atom(0, 1000), atom(1, 0), atom(2, 7)}, api.OK},
		{api.Term{sort(0, 1), atom(1, 0)}, api.OK}, {api.Term{sort(0, 1), atom(2, 0)}, api.OK}, {api.Term{sort(0, 1), atom(3, 0)}, api.ErrShape}, {api.Term{sort(1, 2), atom(1, 0), atom(16, 0)}, api.ErrShape},
		{api.Term{sort(1, 1), atom(17, 0)}, api.ErrShape}, {api.Term{sort(1, 1), atom(0, 1001)}, api.ErrShape}, {api.Term{sort(1, 2), atom(1, 0), atom(0, 0)}, api.ErrShape}, {api.Term{sort(2, 1), atom(0, 0)}, api.ErrShape},
		{nil, api.ErrShape}, {api.Term{ind(0)}, api.ErrShape}, {api.Term{con(2)}, api.ErrShape}, {api.Term{v(0)}, api.ErrShape}, {join(api.Term{pi, ind(0)}, set), api.ErrShape}, {join(api.Term{app, lam, ind(0)}, set, api.Term{ind(0)}), api.ErrShape},
		{join(set, set), api.ErrShape}, {api.Term{sort(1, 2), atom(0, 0)}, api.ErrShape}, {api.Term{sort(1, 1)}, api.ErrShape}, {api.Term{atom(0, 0)}, api.ErrShape},
		{sized(4096), api.ErrShape}, {sized(4097), api.ErrBig}, {append(slices.Clone(set), make(api.Term, 4095)...), api.ErrBig},
	} {
		b := base()
		b.Entries[3].Sort = c.row
		rights(t, "sort", b, c.e)
		if rightIs(b) != c.e {
			t.Errorf("%v is not %d", short(c.row), c.e)
		}
	}
}

func TestRightOfNat(t *testing.T) {
	rights(t, "none, but primitives", turned(func(b *api.Book) { b.Nat = -1 }), api.ErrPrim)
	rights(t, "none", turned(func(b *api.Book) { b.Nat, b.Prims = -1, nil }), api.OK)
	for _, n := range []int{math.MinInt, -2, 1, 2, 3, 4, 5, 6, 7, 63, 64, math.MaxInt} {
		rights(t, "another Nat", turned(func(b *api.Book) { b.Nat = n }), api.ErrPrim)
		rights(t, "another Nat without primitives", turned(func(b *api.Book) { b.Nat, b.Prims = n, nil }), api.ErrPrim)
	}
	for e := range 6 {
		rights(t, "Nat further behind", turned(func(b *api.Book) {
			b.Entries = append(slices.Repeat(b.Entries[:1], e), natAt(e))
			for i := range e {
				b.Entries[i] = natAt(i)
			}
			b.Nat, b.Prims = e, nil
		}), api.OK)
	}
	for name, turn := range map[string]func(f *api.Entry){
		"a proposition":     func(f *api.Entry) { f.Sort[0].A = api.Prop },
		"one higher":        func(f *api.Entry) { f.Sort[1].B = 1 },
		"a variable's sort": func(f *api.Entry) { f.Sort[1].A = 1 },
		"two atoms":         func(f *api.Entry) { f.Sort = api.Term{sort(1, 2), atom(0, 0), atom(1, 0)} },
		"a param":           func(f *api.Entry) { f.Params = []api.Term{set} },
		"an index": func(f *api.Entry) {
			f.Indices, f.Ctors[0].Out, f.Ctors[1].Out = []api.Term{set}, []api.Term{set}, []api.Term{set}
		},
		"no constructors":      func(f *api.Entry) { f.Ctors = nil },
		"one constructor":      func(f *api.Entry) { f.Ctors = f.Ctors[:1] },
		"the other one":        func(f *api.Entry) { f.Ctors = f.Ctors[1:] },
		"three constructors":   func(f *api.Entry) { f.Ctors = append(f.Ctors, api.Ctor{}) },
		"in the other order":   func(f *api.Entry) { f.Ctors[0], f.Ctors[1] = f.Ctors[1], f.Ctors[0] },
		"an Arg of the first":  func(f *api.Entry) { f.Ctors[0].Args = []api.Term{{ind(0)}} },
		"no Arg of the second": func(f *api.Entry) { f.Ctors[1].Args = nil },
		"two of the second":    func(f *api.Entry) { f.Ctors[1].Args = []api.Term{{ind(0)}, {ind(0)}} },
		"another Arg":          func(f *api.Entry) { f.Ctors[1].Args[0] = set },
		"an Arg that is more":  func(f *api.Entry) { f.Ctors[1].Args[0] = api.Term{app, ind(0), ind(0)} },
	} {
		rights(t, name, turned(func(b *api.Book) { b.Prims, b.Entries = nil, b.Entries[:1]; turn(&b.Entries[0]) }), api.ErrPrim)
	}
	rights(t, "an Arg of other numbers", turned(func(b *api.Book) {
		b.Entries, b.Nat, b.Prims = []api.Entry{natAt(0), natAt(1)}, 1, nil
		b.Entries[1].Ctors[1].Args[0][0].A = 0
	}), api.ErrPrim)
}

func TestRightOfPrims(t *testing.T) {
	for i, c := range []struct {
		prims []api.Prim
		e     api.Errno
	}{
		{nil, api.OK}, {[]api.Prim{{Entry: 2, Id: 1}}, api.OK}, {[]api.Prim{{Entry: 2, Id: 2}}, api.OK}, {[]api.Prim{{Entry: 6, Id: 3}}, api.OK},
		{[]api.Prim{{Entry: 6, Id: 3}, {Entry: 2, Id: 2}, {Entry: 4, Id: 1}}, api.OK},
		{[]api.Prim{{Entry: 2, Id: 0}}, api.ErrPrim}, {[]api.Prim{{Entry: 2, Id: 4}}, api.ErrPrim}, {[]api.Prim{{Entry: 2, Id: -1}}, api.ErrPrim}, {[]api.Prim{{Entry: 2, Id: math.MaxInt}}, api.ErrPrim}, {[]api.Prim{{Entry: 2, Id: math.MinInt}}, api.ErrPrim},
		{[]api.Prim{{Entry: 0, Id: 1}}, api.ErrPrim}, {[]api.Prim{{Entry: 3, Id: 1}}, api.ErrPrim}, {[]api.Prim{{Entry: -1, Id: 1}}, api.ErrPrim}, {[]api.Prim{{Entry: 7, Id: 1}}, api.ErrPrim}, {[]api.Prim{{Entry: math.MaxInt, Id: 1}}, api.ErrPrim}, {[]api.Prim{{Entry: math.MinInt, Id: 1}}, api.ErrPrim},
		{[]api.Prim{{Entry: 2, Id: 1}, {Entry: 2, Id: 1}}, api.ErrPrim}, {[]api.Prim{{Entry: 2, Id: 1}, {Entry: 2, Id: 2}}, api.ErrPrim}, {[]api.Prim{{Entry: 2, Id: 1}, {Entry: 4, Id: 1}}, api.ErrPrim},
		{[]api.Prim{{Entry: 2, Id: 1}, {Entry: 4, Id: 2}, {Entry: 2, Id: 3}}, api.ErrPrim}, {[]api.Prim{{Entry: 2, Id: 1}, {Entry: 4, Id: 2}, {Entry: 6, Id: 1}}, api.ErrPrim}, {[]api.Prim{{Entry: 2, Id: 3}, {Entry: 4, Id: 2}, {Entry: 6, Id: 2}}, api.ErrPrim},
		{[]api.Prim{{Entry: 2, Id: 1}, {Entry: 4, Id: 2}, {Entry: 6, Id: 3}, {Entry: 6, Id: 3}}, api.ErrPrim}, {make([]api.Prim, 1000), api.ErrPrim},
		{[]api.Prim{{Entry: 2, Id: 1}, {Entry: 5, Id: 2}}, api.ErrPrim},
	} {
		b := turned(func(b *api.Book) { b.Prims = c.prims })
		if e := book.Right(b); e != c.e || rightIs(b) != c.e {
			t.Errorf("%d: %d, not %d", i, e, c.e)
		}
	}
}

// faultAt is a way in which the base book is not right.
type faultAt struct {
	e    api.Errno
	turn func(b *api.Book)
}

// faults are ways in the order in which they are looked for; big tells of which of the rows, by turns, there are too many nodes, the others being none.
func faults(big int) []faultAt {
	list := []faultAt{
		{api.ErrFull, func(b *api.Book) { b.Orders = make([]api.Order, 65) }},
		{api.ErrFull, func(b *api.Book) {
			for len(b.Entries) < 65 {
				b.Entries = append(b.Entries, api.Entry{})
			}
		}},
		{api.ErrShape, func(b *api.Book) { b.Entries[2].Kind = 0 }},
		{api.ErrShape, func(b *api.Book) { b.Entries[3].Body = set }},
		{api.ErrFull, func(b *api.Book) { b.Entries[3].Params = append(b.Entries[3].Params, make([]api.Term, 16)...) }},
	}
	row := func(i int, at func(b *api.Book) *api.Term) {
		e, t := api.ErrShape, api.Term{ind(7)}
		if i%2 == big {
			e, t = api.ErrBig, sized(4097)
		}
		list = append(list, faultAt{e, func(b *api.Book) { *at(b) = t }})
	}
	row(0, func(b *api.Book) *api.Term { return &b.Entries[3].Sort })
	for i, s := range slots() {
		for k := range 2 {
			if s.name == []string{"arg 0 of 0", "arg 0 of 1"}[k] {
				ctor := func(b *api.Book) *api.Ctor { return &b.Entries[3].Ctors[k] }
				list = append(list, faultAt{api.ErrFull, func(b *api.Book) { ctor(b).Args = append(ctor(b).Args, make([]api.Term, 17)...) }},
					faultAt{api.ErrShape, func(b *api.Book) { ctor(b).Out = append(ctor(b).Out, set) }})
			}
		}
		row(i+1, s.row)
	}
	return append(list, faultAt{api.ErrShape, func(b *api.Book) { b.Entries[5].Kind = 3 }}, faultAt{api.ErrFull, func(b *api.Book) { b.Entries[5].Ctors = make([]api.Ctor, 17) }},
		faultAt{api.ErrPrim, func(b *api.Book) { b.Nat = 9 }})
}

// Of two faults the one that is looked for first is answered.
func TestOrderOfFaults(t *testing.T) {
	for big := range 2 {
		list := faults(big)
		for i, first := range list {
			if b := turned(first.turn); book.Right(b) != first.e || rightIs(b) != first.e {
				t.Errorf("fault %d alone: %d, not %d", i, book.Right(b), first.e)
			}
			for j, second := range list[i+1:] {
				if b := turned(second.turn, first.turn); book.Right(b) != first.e || rightIs(b) != first.e {
					t.Errorf("faults %d and %d: %d, not %d", i, i+1+j, book.Right(b), first.e)
				}
			}
		}
	}
	rights(t, "too many indices, and constructors", turned(func(b *api.Book) { b.Entries[3].Indices, b.Entries[3].Sort = make([]api.Term, 17), sized(4097) }), api.ErrFull)
	rights(t, "too many constructors, and a sort of too many nodes", turned(func(b *api.Book) { b.Entries[3].Ctors, b.Entries[3].Sort = make([]api.Ctor, 17), sized(4097) }), api.ErrFull)
}

// Books that are changed here and there are held against the chapter's list.
func TestRightOfChangedBooks(t *testing.T) {
	d := dice(2)
	met := map[api.Errno]int{}
	for range 30000 {
		p := clone(d.program())
		for range 1 + d.below(2) {
			d.turn(&p)
		}
		e := book.Right(p.Book)
		if want := rightIs(p.Book); e != want {
			t.Fatalf("%v: %d, not %d", p.Book, e, want)
		}
		met[e]++
	}
	for _, e := range []api.Errno{api.OK, api.ErrArg, api.ErrCycle, api.ErrShape, api.ErrPrim} {
		if met[e] < 100 {
			t.Errorf("%d is met %d times", e, met[e])
		}
	}
}

// P5.2

// fits says whether Fits answers that error.
func fits(t *testing.T, b api.Book, free int, row api.Term, want api.Errno) {
	t.Helper()
	if e := book.Fits(b, free, row); e != want || fitsIs(b, free, row) != want {
		t.Errorf("%d free, %v: %d, not %d", free, short(row), e, want)
	}
}

func TestFits(t *testing.T) {
	for _, free := range []int{0, 1, 2, 7, 1 << 10} {
		for _, c := range append(shapeCases(free), nameCases(7, false)...) {
			fits(t, base(), free, c.row, c.e)
		}
	}
	for _, free := range []int{1<<20 + 1, 1 << 32, math.MaxInt - 1, math.MaxInt} {
		fits(t, base(), free, api.Term{v(1 << 20)}, api.OK)
		fits(t, base(), free, api.Term{pi, v(0), v(1 << 20)}, api.OK)
		fits(t, base(), free, api.Term{v(1<<20 + 1)}, api.ErrShape)
		fits(t, base(), free, nil, api.ErrShape)
	}
	fits(t, base(), 1<<20, api.Term{v(1 << 20)}, api.ErrShape)
	fits(t, base(), 1<<20, api.Term{pi, v(0), v(1 << 20)}, api.OK)
}

func TestFitsOrder(t *testing.T) {
	wrong := turned(func(b *api.Book) { b.Nat = 9 })
	for _, free := range []int{-1, -2, -1 << 32, math.MinInt} {
		for _, row := range []api.Term{nil, {ind(0)}, {ind(9)}, {v(0)}, sized(4097)} {
			fits(t, base(), free, row, api.ErrArg)
			fits(t, wrong, free, row, api.ErrPrim)
		}
	}
	for _, row := range []api.Term{nil, {ind(0)}, {ind(9)}, sized(4097)} {
		fits(t, wrong, 0, row, api.ErrPrim)
	}
	fits(t, api.Book{Vars: 17}, -1, nil, api.ErrArg)
	fits(t, api.Book{Vars: 1, Orders: []api.Order{{Low: 1, Add: 1, High: 1}}}, -1, nil, api.ErrCycle)
	fits(t, api.Book{Nat: -1}, 0, set, api.OK)
	fits(t, api.Book{Nat: -1}, 0, api.Term{ind(0)}, api.ErrShape)
}

func TestFitsOfChangedRows(t *testing.T) {
	d := dice(3)
	for range 10000 {
		p := clone(d.program())
		free := d.below(4) - 1
		if d.below(2) == 0 {
			p.Main = d.term(place{p.Book, len(p.Book.Entries), false}, 2, 2)
		}
		d.turnRow(&p)
		fits(t, p.Book, free, p.Main, fitsIs(p.Book, free, p.Main))
	}
}
