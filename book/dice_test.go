package book_test

import (
	"math"
	"slices"

	"retort/api"
)

// dice is a short rule that makes numbers, the same ones each time.
type dice uint64

// below answers a number from 0 on that is below n.
func (d *dice) below(n int) int {
	*d = *d*6364136223846793005 + 1442695040888963407
	return int(*d>>33) % n
}

// wild makes a number: one at an edge, or beyond any size.
func (d *dice) wild() int {
	edges := []int{math.MinInt, -2, -1, 0, 0, 0, 1, 1, 1, 2, 2, 3, 4, 5, 13, 15, 16, 17, 63, 64, 1 << 20, 1<<20 + 1, math.MaxInt}
	return edges[d.below(len(edges))]
}

// wildNode makes a node that seldom may stand.
func (d *dice) wildNode() api.Node {
	if d.below(3) > 0 {
		return api.Node{Op: d.below(14), A: d.below(6), B: d.below(3)}
	}
	return api.Node{Op: d.wild(), A: d.wild(), B: d.wild()}
}

// place is where a row stands: in a book, as one of the entry at, which may name itself as a family or not.
type place struct {
	b      api.Book
	at     int
	itself bool
}

// family answers an entry that is a family, if dice find one.
func (d *dice) family(p place) (int, bool) {
	for range p.at {
		if e := d.below(p.at); p.b.Entries[e].Kind == api.Family {
			return e, true
		}
	}
	return 0, false
}

// sort makes a sort.
func (d *dice) sort(vars int) api.Term {
	t := api.Term{sort(d.below(2), 0)}
	for w := range vars + 1 {
		if len(t) < 5 && d.below(2) == 0 {
			t = append(t, atom(w, d.below(1001)))
		}
	}
	if len(t) == 1 {
		t = append(t, atom(d.below(vars+1), d.below(3)))
	}
	t[0].B = len(t) - 1
	return t
}

// leaf makes a term without kids, in which the variables below n may stand.
func (d *dice) leaf(p place, n int) api.Term {
	switch d.below(6) {
	case 0, 1, 2:
		if n > 0 {
			return api.Term{v(d.below(n))}
		}
	case 3:
		if p.itself {
			return api.Term{ind(p.at)}
		}
	case 4:
		if e := d.below(p.at + 1); e < p.at && p.b.Entries[e].Kind == api.Def {
			return api.Term{con(e)}
		}
	}
	if e, ok := d.family(p); ok && len(p.b.Entries[e].Ctors) > 0 && d.below(2) == 0 {
		return api.Term{ctor(e, d.below(len(p.b.Entries[e].Ctors)))}
	} else if ok {
		return api.Term{ind(e)}
	}
	return d.sort(p.b.Vars)
}

// term makes a term as deep as that, in which the variables below n may stand.
func (d *dice) term(p place, n, deep int) api.Term {
	if deep == 0 || d.below(5) == 0 {
		return d.leaf(p, n)
	}
	fix := api.Node{Op: api.OpFix, B: 1 + d.below(3)}
	fix.A = d.below(fix.B)
	nodes := []api.Node{pi, lam, app, app, let, fix}
	if e, ok := d.family(p); ok {
		nodes = append(nodes, match(e, d.below(4)))
	}
	t := api.Term{nodes[d.below(len(nodes))]}
	around, _ := many(t[0])
	for i, more := range around {
		if t[0].Op == api.OpFix && i%2 == 0 {
			t = append(t, api.Node{Op: api.OpFun, A: d.below(16)})
		}
		t = append(t, d.term(p, n+more, deep-1)...)
	}
	return t
}

// telescope makes rows, each of which may name the variables ahead of it and n more.
func (d *dice) telescope(p place, n, most int) []api.Term {
	var list []api.Term
	for i := range d.below(most + 1) {
		list = append(list, d.term(p, n+i, 2))
	}
	return list
}

// entry makes the next entry of a book.
func (d *dice) entry(b api.Book) api.Entry {
	p := place{b, len(b.Entries), false}
	if d.below(2) == 0 {
		return api.Entry{Kind: api.Def, Type: d.term(p, 0, 2), Body: d.term(p, 0, 3)}
	}
	f := api.Entry{Kind: api.Family, Sort: d.sort(b.Vars), Params: d.telescope(p, 0, 3)}
	f.Indices = d.telescope(p, len(f.Params), 2)
	p.itself = true
	for range d.below(4) {
		c := api.Ctor{Args: d.telescope(p, len(f.Params), 3)}
		for range f.Indices {
			c.Out = append(c.Out, d.term(p, len(f.Params)+len(c.Args), 2))
		}
		f.Ctors = append(f.Ctors, c)
	}
	return f
}

// book makes a book that is right.
func (d *dice) book() api.Book {
	b := api.Book{Vars: d.below(4), Nat: -1}
	for range d.below(3) {
		b.Orders = append(b.Orders, api.Order{Low: d.below(b.Vars + 1), Add: -d.below(1001), High: d.below(b.Vars + 1)})
	}
	for range d.below(3) {
		b.Entries = append(b.Entries, d.entry(b))
	}
	if d.below(3) > 0 {
		b.Nat = len(b.Entries)
		b.Entries = append(b.Entries, natAt(b.Nat))
	}
	for range d.below(4) {
		b.Entries = append(b.Entries, d.entry(b))
	}
	for e, x := range b.Entries {
		if id := len(b.Prims) + 1; b.Nat != -1 && x.Kind == api.Def && id <= 3 && d.below(2) == 0 {
			b.Prims = append(b.Prims, api.Prim{Entry: e, Id: id})
		}
	}
	return b
}

// program makes a program with a book that is right, and rows that fit it.
func (d *dice) program() api.Program {
	p := place{d.book(), 0, false}
	p.at = len(p.b.Entries)
	return api.Program{Book: p.b, Main: d.term(p, 0, 3), Type: d.term(p, 0, 2)}
}

// natAt answers the family of the natural numbers, as the entry e.
func natAt(e int) api.Entry {
	return api.Entry{Kind: api.Family, Sort: slices.Clone(set), Ctors: []api.Ctor{{}, {Args: []api.Term{{ind(e)}}}}}
}

// rowsOf answers where the rows of a program stand.
func rowsOf(p *api.Program) []*api.Term {
	var list []*api.Term
	telescope := func(rows []api.Term) {
		for i := range rows {
			list = append(list, &rows[i])
		}
	}
	for e := range p.Book.Entries {
		x := &p.Book.Entries[e]
		list = append(list, &x.Sort, &x.Type, &x.Body)
		telescope(x.Params)
		telescope(x.Indices)
		for k := range x.Ctors {
			telescope(x.Ctors[k].Args)
			telescope(x.Ctors[k].Out)
		}
	}
	return append(list, &p.Main, &p.Type)
}

// turn changes a program at some place, so that it is seldom right.
func (d *dice) turn(p *api.Program) {
	b := &p.Book
	switch d.below(12) {
	case 0:
		b.Vars = d.wild()
	case 1:
		b.Orders = append(b.Orders, api.Order{Low: d.below(4), Add: d.below(3), High: d.below(4)})
	case 2:
		b.Nat = d.wild()
	case 3:
		b.Prims = append(b.Prims, api.Prim{Entry: d.below(8) - 1, Id: d.below(5)})
	case 4:
		b.Entries = append(b.Entries, api.Entry{Kind: d.below(4)})
	case 5:
		for range len(b.Entries) / 2 {
			i, j := d.below(len(b.Entries)), d.below(len(b.Entries))
			b.Entries[i], b.Entries[j] = b.Entries[j], b.Entries[i]
		}
	case 6, 7:
		d.turnList(b)
	default:
		d.turnRow(p)
	}
}

// turnRow changes a row: a node is changed, left out, or put in, or all nodes are.
func (d *dice) turnRow(p *api.Program) {
	list := rowsOf(p)
	t := list[d.below(len(list))]
	if len(*t) == 0 {
		*t = api.Term{d.wildNode()}
		return
	}
	at := d.below(len(*t))
	switch d.below(5) {
	case 0:
		*t = slices.Insert(*t, at, d.wildNode())
	case 1:
		*t = slices.Delete(*t, at, at+1)
	case 2:
		*t = nil
	default:
		(*t)[at] = d.wildNode()
		if n := &(*t)[at]; d.below(2) == 0 && n.Op == api.OpVar {
			n.A = max(0, d.below(8))
		}
	}
}

// turnList changes a list of an entry.
func (d *dice) turnList(b *api.Book) {
	if len(b.Entries) == 0 {
		return
	}
	x := &b.Entries[d.below(len(b.Entries))]
	lists := []*[]api.Term{&x.Params, &x.Indices}
	for k := range x.Ctors {
		lists = append(lists, &x.Ctors[k].Args, &x.Ctors[k].Out)
	}
	list := lists[d.below(len(lists))]
	switch {
	case d.below(3) == 0:
		x.Kind = d.below(4)
	case d.below(2) == 0 && len(*list) > 0:
		*list = (*list)[:len(*list)-1]
	case d.below(3) == 0:
		x.Ctors = append(x.Ctors, api.Ctor{})
	default:
		*list = append(*list, slices.Clone(set))
	}
}

// clone answers a program in other memory.
func clone(p api.Program) api.Program {
	rows := func(list []api.Term) []api.Term {
		out := slices.Clone(list)
		for i := range out {
			out[i] = slices.Clone(out[i])
		}
		return out
	}
	p.Main, p.Type = slices.Clone(p.Main), slices.Clone(p.Type)
	p.Book.Orders, p.Book.Prims, p.Book.Entries = slices.Clone(p.Book.Orders), slices.Clone(p.Book.Prims), slices.Clone(p.Book.Entries)
	for e := range p.Book.Entries {
		x := &p.Book.Entries[e]
		x.Sort, x.Type, x.Body = slices.Clone(x.Sort), slices.Clone(x.Type), slices.Clone(x.Body)
		x.Params, x.Indices, x.Ctors = rows(x.Params), rows(x.Indices), slices.Clone(x.Ctors)
		for k, c := range x.Ctors {
			x.Ctors[k] = api.Ctor{Args: rows(c.Args), Out: rows(c.Out)}
		}
	}
	return p
}

// same tells whether two programs are the same: a list that is nil is one without elements.
func same(p, q api.Program) bool {
	rows := func(a, b []api.Term) bool {
		return slices.EqualFunc(a, b, func(t, u api.Term) bool { return slices.Equal(t, u) })
	}
	return slices.Equal(p.Main, q.Main) && slices.Equal(p.Type, q.Type) && p.Book.Vars == q.Book.Vars && p.Book.Nat == q.Book.Nat &&
		slices.Equal(p.Book.Orders, q.Book.Orders) && slices.Equal(p.Book.Prims, q.Book.Prims) &&
		slices.EqualFunc(p.Book.Entries, q.Book.Entries, func(x, y api.Entry) bool {
			return x.Kind == y.Kind && slices.Equal(x.Sort, y.Sort) && slices.Equal(x.Type, y.Type) && slices.Equal(x.Body, y.Body) && rows(x.Params, y.Params) && rows(x.Indices, y.Indices) &&
				slices.EqualFunc(x.Ctors, y.Ctors, func(c, d api.Ctor) bool { return rows(c.Args, d.Args) && rows(c.Out, d.Out) })
		})
}
