package book_test

import (
	"math"
	"slices"
	"testing"

	"retort/api"
	"retort/book"
)

// products answers the products over rows around one more.
func products(doms []api.Term, t api.Term) api.Term {
	var out api.Term
	for _, dom := range doms {
		out = append(append(out, pi), dom...)
	}
	return append(out, t...)
}

// applied answers an application.
func applied(f api.Term, args ...api.Term) api.Term {
	return join(slices.Repeat(api.Term{app}, len(args)), f, slices.Concat(args...))
}

// down answers the variables from one to another, which is lower, as rows.
func down(from, to int) []api.Term {
	var list []api.Term
	for n := from; n >= to; n-- {
		list = append(list, api.Term{v(n)})
	}
	return list
}

// sizes answers a row, or ErrBig.
func sizes(t api.Term) (api.Term, api.Errno) {
	if len(t) > 4096 {
		return nil, api.ErrBig
	}
	return t, api.OK
}

// indTypeIs and ctorTypeIs are the chapter's calls on what there is.
func indTypeIs(b api.Book, e int) (api.Term, api.Errno) {
	f := b.Entries[e]
	return sizes(products(f.Params, products(f.Indices, f.Sort)))
}

func ctorTypeIs(b api.Book, e, k int) (api.Term, api.Errno) {
	f := b.Entries[e]
	c := f.Ctors[k]
	np, na := len(f.Params), len(c.Args)
	made := applied(api.Term{ind(e)}, append(down(np+na-1, na), c.Out...)...)
	return sizes(products(f.Params, products(c.Args, made)))
}

// branchIs is the chapter's Branch on what there is, step by step.
func branchIs(b api.Book, e, k int, params []api.Term, motive api.Term) (api.Term, api.Errno) {
	f := b.Entries[e]
	c := f.Ctors[k]
	np, na := len(f.Params), len(c.Args)
	motive, fault := lift(motive, np+na, 0)
	if fault != api.OK {
		return nil, fault
	}
	made := applied(api.Term{ctor(e, k)}, down(np+na-1, 0)...)
	whole, fault := sizes(products(c.Args, applied(motive, append(slices.Clone(c.Out), made)...)))
	for i := np - 1; i >= 0 && fault == api.OK; i-- {
		var p api.Term
		if p, fault = lift(params[i], i, 0); fault == api.OK {
			whole, fault = subst(whole, p, 0)
		}
	}
	if fault != api.OK {
		return nil, fault
	}
	return whole, api.OK
}

// branchAtOnce is what Branch answers, told in another way: all params are put in their places at the same time.
func branchAtOnce(b api.Book, e, k int, params []api.Term, motive api.Term) api.Term {
	f := b.Entries[e]
	c := f.Ctors[k]
	put := func(row api.Term, args int) api.Term { // a row that stands under the params, and so many args
		t, _ := shape(row)
		return t.turned(0, func(free, under int) *tree {
			if free < args {
				return &tree{node: v(free + under)}
			}
			p, _ := shape(params[len(params)-1-(free-args)])
			p, _ = p.lift(args+under, 0)
			return p
		}).row()
	}
	var doms, out, made []api.Term
	for i, arg := range c.Args {
		doms = append(doms, put(arg, i))
	}
	for _, row := range c.Out {
		out = append(out, put(row, len(c.Args)))
	}
	for _, p := range params {
		p, _ := lift(p, len(c.Args), 0)
		made = append(made, p)
	}
	made = append(made, down(len(c.Args)-1, 0)...)
	motive, _ = lift(motive, len(c.Args), 0)
	return products(doms, applied(motive, append(out, applied(api.Term{ctor(e, k)}, made...))...))
}

// answers says whether a call answered that row, or nothing beside that error.
func answers(t *testing.T, name string, got api.Term, e api.Errno, want api.Term, wantE api.Errno) {
	t.Helper()
	if e != wantE || !slices.Equal(got, want) {
		t.Errorf("%s: %v (%d nodes), %d; not %v (%d nodes), %d", name, short(got), len(got), e, short(want), len(want), wantE)
	}
}

// wrongBooks are books that are not right, each with another error.
func wrongBooks() map[api.Errno]api.Book {
	return map[api.Errno]api.Book{
		api.ErrArg:   turned(func(b *api.Book) { b.Vars = 17 }),
		api.ErrCycle: turned(func(b *api.Book) { b.Orders = append(b.Orders, api.Order{Low: 2, High: 1}) }),
		api.ErrFull:  turned(func(b *api.Book) { b.Entries = make([]api.Entry, 65) }),
		api.ErrShape: turned(func(b *api.Book) { b.Entries[6].Kind = 0 }),
		api.ErrBig:   turned(func(b *api.Book) { b.Entries[6].Body = sized(4097) }),
		api.ErrPrim:  turned(func(b *api.Book) { b.Nat = 9 }),
	}
}

// noEntries are numbers that are no entry of the base book; those that are no family's entry are more.
func noEntries() []int {
	return []int{math.MinInt, -1 << 32, -64, -1, 7, 63, 64, 1 << 32, math.MaxInt}
}

func noFamilies() []int { return append(noEntries(), 2, 4, 6) }

// P5.3

func TestIndType(t *testing.T) {
	b := base()
	got, e := book.IndType(b, 0)
	answers(t, "numbers", got, e, set, api.OK)
	got, e = book.IndType(b, 1)
	answers(t, "lists", got, e, join(api.Term{pi}, set, set), api.OK)
	got, e = book.IndType(b, 3)
	answers(t, "two params, two indices", got, e, join(api.Term{pi}, set, api.Term{pi, pi, v(0), ind(0), pi, ind(0), pi, app, v(2), v(0), sort(1, 2), atom(1, 0), atom(2, 5)}), api.OK)
}

func TestCtorType(t *testing.T) {
	b := base()
	for _, c := range []struct {
		e, k int
		want api.Term
	}{
		{0, 0, api.Term{ind(0)}},
		{0, 1, api.Term{pi, ind(0), ind(0)}},
		{1, 0, join(api.Term{pi}, set, api.Term{app, ind(1), v(0)})},
		{1, 1, join(api.Term{pi}, set, api.Term{pi, v(0), pi, app, ind(1), v(1), app, ind(1), v(2)})},
		{3, 0, join(api.Term{pi}, set, api.Term{pi, pi, v(0), ind(0), pi, ind(0), pi, app, ind(3), v(2), app, app, app, app, ind(3), v(3), v(2), ctor(0, 0), v(3)})},
		{3, 1, join(api.Term{pi}, set, api.Term{pi, pi, v(0), ind(0), pi, ind(3), app, app, app, app, ind(3), v(2), v(1), app, ctor(0, 1), v(0), ind(3)})},
		{5, 2, api.Term{ind(5)}},
	} {
		got, e := book.CtorType(b, c.e, c.k)
		answers(t, "type of a constructor", got, e, c.want, api.OK)
	}
}

func TestTypesOfNoFamily(t *testing.T) {
	b := base()
	for _, e := range noFamilies() {
		got, fault := book.IndType(b, e)
		answers(t, "IndType", got, fault, nil, api.ErrArg)
		for _, k := range []int{math.MinInt, -1, 0, 1, 16, math.MaxInt} {
			got, fault = book.CtorType(b, e, k)
			answers(t, "CtorType", got, fault, nil, api.ErrArg)
			got, fault = book.Branch(b, e, k, nil, api.Term{v(0)})
			answers(t, "Branch", got, fault, nil, api.ErrArg)
		}
	}
	for e, x := range b.Entries {
		for _, k := range []int{math.MinInt, -1, len(x.Ctors), len(x.Ctors) + 1, 15, 16, 1 << 32, math.MaxInt} {
			got, fault := book.CtorType(b, e, k)
			answers(t, "CtorType", got, fault, nil, api.ErrArg)
			got, fault = book.Branch(b, e, k, x.Params, api.Term{v(0)})
			answers(t, "Branch", got, fault, nil, api.ErrArg)
		}
	}
}

// Right's error is ahead of all others.
func TestTypesOfWrongBooks(t *testing.T) {
	for want, b := range wrongBooks() {
		for _, e := range append(noFamilies(), 0, 1) {
			got, fault := book.IndType(b, e)
			answers(t, "IndType", got, fault, nil, want)
			for _, k := range []int{-1, 0, 2} {
				got, fault = book.CtorType(b, e, k)
				answers(t, "CtorType", got, fault, nil, want)
				got, fault = book.Branch(b, e, k, []api.Term{nil, sized(4097)}, nil)
				answers(t, "Branch", got, fault, nil, want)
			}
		}
	}
}

// large answers a book with one family behind the numbers: rows of just so many nodes as parameter, index, argument and Out.
func large(param, index, arg, out int) api.Book {
	f := api.Entry{Kind: api.Family, Sort: set, Params: []api.Term{sized(param)}, Indices: []api.Term{sized(index)}}
	f.Ctors = []api.Ctor{{Args: []api.Term{sized(arg)}, Out: []api.Term{sized(out)}}}
	return api.Book{Entries: []api.Entry{natAt(0), f}}
}

func TestTypesOfManyNodes(t *testing.T) {
	for _, c := range []struct {
		b    api.Book
		size int // of the family's type
		made int // of the constructor's
	}{
		{large(2000, 2092, 1, 1), 4096, 2008},
		{large(2000, 2093, 1, 1), 4097, 2008},
		{large(4095, 1, 1, 1), 4100, 4103},
		{large(1, 4091, 1, 1), 4096, 9},
		{large(1, 4092, 1, 1), 4097, 9},
		{large(1, 1, 4088, 1), 6, 4096},
		{large(1, 1, 4089, 1), 6, 4097},
		{large(4088, 1, 1, 1), 4093, 4096},
		{large(4089, 1, 1, 1), 4094, 4097},
		{large(1, 1, 1, 4088), 6, 4096},
		{large(1, 1, 1, 4089), 6, 4097},
		{large(1, 1, 1, 4092), 6, 4100},
		{large(1, 1, 1, 4093), 6, 4101},
		{large(4096, 4096, 4096, 4096), 8196, 12294},
	} {
		for n, call := range map[int]func() (api.Term, api.Errno){
			c.size: func() (api.Term, api.Errno) { return book.IndType(c.b, 1) },
			c.made: func() (api.Term, api.Errno) { return book.CtorType(c.b, 1, 0) },
		} {
			got, e := call()
			if n > 4096 && (e != api.ErrBig || len(got) > 0) || n <= 4096 && (e != api.OK || len(got) != n) {
				t.Errorf("of %d nodes: %d nodes, %d", n, len(got), e)
			}
		}
	}
	wide := turned(func(b *api.Book) {
		b.Entries[3].Ctors[0].Out = []api.Term{sized(4096), sized(4096)}
	})
	got, e := book.CtorType(wide, 3, 0)
	answers(t, "the family alone has too many nodes", got, e, nil, api.ErrBig)
}

// Types of books of all kinds are held against the chapter's words.
func TestTypesOfMadeBooks(t *testing.T) {
	d := dice(4)
	for range 3000 {
		b := d.book()
		for e, x := range b.Entries {
			if x.Kind != api.Family {
				continue
			}
			want, wantE := indTypeIs(b, e)
			got, fault := book.IndType(b, e)
			answers(t, "IndType", got, fault, want, wantE)
			for k := range x.Ctors {
				want, wantE := ctorTypeIs(b, e, k)
				got, fault := book.CtorType(b, e, k)
				answers(t, "CtorType", got, fault, want, wantE)
				if n := len(b.Entries); fault == api.OK && book.Fits(b, 0, got) != api.OK {
					t.Errorf("the type of a constructor of %d entries does not fit", n)
				}
			}
		}
	}
}

// P5.4

func TestBranch(t *testing.T) {
	b := base()
	for _, c := range []struct {
		e, k   int
		params []api.Term
		motive api.Term
		want   api.Term
	}{
		{0, 0, nil, api.Term{v(3)}, api.Term{app, v(3), ctor(0, 0)}},
		{0, 1, nil, api.Term{v(3)}, api.Term{pi, ind(0), app, v(4), app, ctor(0, 1), v(0)}},
		{1, 0, []api.Term{{v(5)}}, api.Term{v(3)}, api.Term{app, v(3), app, ctor(1, 0), v(5)}},
		{1, 1, []api.Term{{ind(0)}}, api.Term{v(3)}, api.Term{pi, ind(0), pi, app, ind(1), ind(0), app, v(5), app, app, app, ctor(1, 1), ind(0), v(1), v(0)}},
		{1, 1, []api.Term{{v(0)}}, api.Term{v(0)}, api.Term{pi, v(0), pi, app, ind(1), v(1), app, v(2), app, app, app, ctor(1, 1), v(2), v(1), v(0)}},
		{1, 1, []api.Term{{lam, v(0), app, v(0), v(1)}}, api.Term{lam, v(0), app, v(0), v(1)}, api.Term{
			pi, lam, v(0), app, v(0), v(1), pi, app, ind(1), lam, v(1), app, v(0), v(2),
			app, lam, v(2), app, v(0), v(3), app, app, app, ctor(1, 1), lam, v(2), app, v(0), v(3), v(1), v(0)}},
		{3, 0, []api.Term{{v(7)}, {v(9)}}, api.Term{v(11)}, api.Term{
			pi, ind(0), pi, app, ind(3), v(8), app, app, app, v(13), ctor(0, 0), v(9), app, app, app, app, ctor(3, 0), v(9), v(11), v(1), v(0)}},
		{5, 1, []api.Term{}, api.Term{ind(63)}, api.Term{app, ind(63), ctor(5, 1)}},
	} {
		got, e := book.Branch(b, c.e, c.k, c.params, c.motive)
		answers(t, "Branch", got, e, c.want, api.OK)
		if at := branchAtOnce(b, c.e, c.k, c.params, c.motive); !slices.Equal(at, c.want) {
			t.Errorf("%v, not %v", at, c.want)
		}
	}
}

func TestBranchOfOtherParams(t *testing.T) {
	b := base()
	one := api.Term{v(0)}
	for e, x := range b.Entries {
		for n := range 20 {
			if n == len(x.Params) && x.Kind == api.Family {
				continue
			}
			for _, p := range []api.Term{one, nil, sized(4097)} {
				for _, motive := range []api.Term{one, nil, sized(4097)} {
					got, fault := book.Branch(b, e, 0, slices.Repeat([]api.Term{p}, n), motive)
					answers(t, "Branch", got, fault, nil, api.ErrArg)
				}
			}
		}
	}
}

func TestBranchOfWrongRows(t *testing.T) {
	b := base()
	one, big := api.Term{v(0)}, sized(4097)
	for _, none := range []api.Term{nil, {}, {{}}, {app, v(0)}, {v(0), v(0)}, {v(-1)}, {v(1<<20 + 1)}, {con(64)}, {atom(0, 0)}} {
		for i, c := range []struct {
			params []api.Term
			motive api.Term
			e      api.Errno
		}{
			{[]api.Term{none, one}, one, api.ErrShape}, {[]api.Term{one, none}, one, api.ErrShape}, {[]api.Term{one, one}, none, api.ErrShape},
			{[]api.Term{big, one}, one, api.ErrBig}, {[]api.Term{one, big}, one, api.ErrBig}, {[]api.Term{one, one}, big, api.ErrBig},
			{[]api.Term{big, none}, none, api.ErrBig}, {[]api.Term{none, big}, big, api.ErrShape}, {[]api.Term{one, big}, none, api.ErrBig}, {[]api.Term{one, none}, big, api.ErrShape},
			{[]api.Term{big, one}, none, api.ErrBig}, {[]api.Term{none, one}, big, api.ErrShape},
			{[]api.Term{one, {v(1 << 20)}}, none, api.ErrShape}, {[]api.Term{none, one}, api.Term{v(1 << 20)}, api.ErrShape},
		} {
			got, e := book.Branch(b, 3, 0, c.params, c.motive)
			answers(t, "Branch "+string(rune('a'+i)), got, e, nil, c.e)
		}
	}
	// Rows that fit no book are rows all the same.
	got, e := book.Branch(b, 1, 0, []api.Term{{app, con(63), ind(40)}}, api.Term{match(50, 0), ctor(60, 15), sort(0, 1), atom(16, 0)})
	answers(t, "strange names", got, e, api.Term{app, match(50, 0), ctor(60, 15), sort(0, 1), atom(16, 0), app, ctor(1, 0), app, con(63), ind(40)}, api.OK)
}

const most = 1 << 20

// wideBook answers the base book whose entry 5 has three parameters, and constructors: one that names the last parameter under two binders, one that names the others so, and one that names none.
func wideBook() api.Book {
	return turned(func(b *api.Book) {
		b.Entries[5].Params = []api.Term{set, set, set}
		b.Entries[5].Ctors = []api.Ctor{
			{Args: []api.Term{{pi, ind(0), pi, ind(0), v(2)}}},
			{Args: []api.Term{{pi, ind(0), pi, ind(0), app, v(3), v(4)}}},
			{},
		}
	})
}

// Each of layer 4's calls that can fail does so in its place.
func TestBranchErrors(t *testing.T) {
	low := api.Term{v(0)}
	b := wideBook()
	for i, c := range []struct {
		k      int
		params []api.Term
		motive api.Term
		e      api.Errno
	}{
		// Lift of the motive: by 3 and 1, or by 3.
		{0, []api.Term{low, low, low}, api.Term{v(most - 4)}, api.OK},
		{0, []api.Term{low, low, low}, api.Term{v(most - 3)}, api.ErrLarge},
		{0, []api.Term{low, low, low}, api.Term{pi, low[0], v(most - 4)}, api.OK},
		{0, []api.Term{low, low, low}, api.Term{pi, low[0], v(most - 3)}, api.ErrLarge},
		{2, []api.Term{low, low, low}, api.Term{v(most - 3)}, api.OK},
		{2, []api.Term{low, low, low}, api.Term{v(most - 2)}, api.ErrLarge},
		{2, []api.Term{low, low, low}, api.Term{v(most)}, api.ErrLarge},
		// Apply of the motive: an application ahead, and the constructor's seven nodes, or nine.
		{2, []api.Term{low, low, low}, sized(4088), api.OK},
		{2, []api.Term{low, low, low}, sized(4089), api.ErrBig},
		// Bind: a product and five nodes more.
		{0, []api.Term{low, low, low}, sized(4080), api.OK},
		{0, []api.Term{low, low, low}, sized(4081), api.ErrBig},
		{0, []api.Term{low, low, low}, sized(4087), api.ErrBig},
		// Lift of the params: by 2, by 1, by 0, though none stands anywhere else than in the constructor.
		{2, []api.Term{low, low, {v(most - 2)}}, low, api.OK},
		{2, []api.Term{low, low, {v(most - 1)}}, low, api.ErrLarge},
		{2, []api.Term{low, {v(most - 1)}, low}, low, api.OK},
		{2, []api.Term{low, {v(most)}, low}, low, api.ErrLarge},
		{2, []api.Term{{v(most)}, low, low}, low, api.OK},
		// Subst: under the binders of Args.
		{0, []api.Term{low, low, {v(most - 4)}}, low, api.OK},
		{0, []api.Term{low, low, {v(most - 3)}}, low, api.ErrLarge},
		{1, []api.Term{low, {v(most - 3)}, low}, low, api.OK},
		{1, []api.Term{low, {v(most - 2)}, low}, low, api.ErrLarge},
		{1, []api.Term{{v(most - 2)}, low, low}, low, api.OK},
		{1, []api.Term{{v(most - 1)}, low, low}, low, api.ErrLarge},
		{2, []api.Term{low, low, sized(4088)}, low, api.OK},
		{2, []api.Term{low, low, sized(4089)}, low, api.ErrBig},
		{2, []api.Term{low, sized(4088), low}, low, api.OK},
		{2, []api.Term{low, sized(4089), low}, low, api.ErrBig},
		{2, []api.Term{sized(4088), low, low}, low, api.OK},
		{2, []api.Term{sized(4089), low, low}, low, api.ErrBig},
		{2, []api.Term{sized(2000), sized(1000), sized(1090)}, low, api.OK},
		{2, []api.Term{sized(2000), sized(1000), sized(1091)}, low, api.ErrBig},
	} {
		want, wantE := branchIs(b, 5, c.k, c.params, c.motive)
		if wantE != c.e {
			t.Errorf("%d: by the chapter %d, not %d", i, wantE, c.e)
		}
		got, e := book.Branch(b, 5, c.k, c.params, c.motive)
		answers(t, "Branch "+string(rune('A'+i)), got, e, want, c.e)
	}
}

// Of two calls of layer 4 that fail the first one's error is answered.
func TestBranchOrderOfErrors(t *testing.T) {
	b := wideBook()
	low, huge, high := api.Term{v(0)}, sized(4096), api.Term{v(most)}
	hugeHigh := join(api.Term{app, v(most)}, sized(4094))
	for i, c := range []struct {
		k      int
		params []api.Term
		motive api.Term
		e      api.Errno
	}{
		{0, []api.Term{huge, huge, huge}, high, api.ErrLarge},
		{0, []api.Term{low, low, low}, hugeHigh, api.ErrLarge},
		{0, []api.Term{high, high, high}, huge, api.ErrBig},
		{0, []api.Term{high, high, high}, sized(4081), api.ErrBig},
		{2, []api.Term{low, high, huge}, low, api.ErrBig},
		{2, []api.Term{huge, huge, high}, low, api.ErrLarge},
		{2, []api.Term{huge, high, low}, low, api.ErrLarge},
		{1, []api.Term{high, huge, low}, low, api.ErrBig},
		{1, []api.Term{high, low, huge}, low, api.ErrBig},
		{1, []api.Term{huge, {v(most - 2)}, low}, low, api.ErrLarge},
		{0, []api.Term{low, low, hugeHigh}, low, api.ErrLarge},
		{0, []api.Term{low, low, join(api.Term{app, v(most - 3)}, sized(4094))}, low, api.ErrLarge},
		{0, []api.Term{low, low, join(api.Term{app, v(most - 4)}, sized(4094))}, low, api.ErrBig},
	} {
		got, e := book.Branch(b, 5, c.k, c.params, c.motive)
		answers(t, "Branch "+string(rune('A'+i)), got, e, nil, c.e)
		if _, e := branchIs(b, 5, c.k, c.params, c.motive); e != c.e {
			t.Errorf("%d: by the chapter %d, not %d", i, e, c.e)
		}
	}
}

// Branches of books of all kinds: by the chapter's steps, and with all params put in at the same time.
func TestBranchOfMadeBooks(t *testing.T) {
	d := dice(5)
	faults := 0
	for range 3000 {
		b := d.book()
		p := place{b, len(b.Entries), false}
		for e, x := range b.Entries {
			for k := range x.Ctors {
				free := 4
				if d.below(8) == 0 {
					free = most
				}
				motive := d.term(p, free, 2)
				var params []api.Term
				for range x.Params {
					params = append(params, d.term(p, free, 2))
				}
				if free == most && len(params) > 0 {
					params[d.below(len(params))] = api.Term{v(most - d.below(6))}
				}
				want, wantE := branchIs(b, e, k, params, motive)
				got, fault := book.Branch(b, e, k, params, motive)
				answers(t, "Branch", got, fault, want, wantE)
				if fault == api.OK && !slices.Equal(got, branchAtOnce(b, e, k, params, motive)) {
					t.Errorf("%v is not what all params at once make", short(got))
				}
				if fault != api.OK {
					faults++
				}
			}
		}
	}
	if faults < 20 {
		t.Errorf("%d faults are met", faults)
	}
}
