package book_test

import (
	"slices"

	"retort/api"
	"retort/level"
)

func v(n int) api.Node          { return api.Node{Op: api.OpVar, A: n} }
func ind(e int) api.Node        { return api.Node{Op: api.OpInd, A: e} }
func con(e int) api.Node        { return api.Node{Op: api.OpConst, A: e} }
func ctor(e, k int) api.Node    { return api.Node{Op: api.OpCtor, A: e, B: k} }
func match(e, n int) api.Node   { return api.Node{Op: api.OpMatch, A: e, B: n} }
func atom(w, a int) api.Node    { return api.Node{Op: api.OpAtom, A: w, B: a} }
func sort(kind, n int) api.Node { return api.Node{Op: api.OpSort, A: kind, B: n} }

func join(rows ...api.Term) api.Term { return slices.Concat(rows...) }

var (
	pi  = api.Node{Op: api.OpPi}
	lam = api.Node{Op: api.OpLam}
	app = api.Node{Op: api.OpApp}
	let = api.Node{Op: api.OpLet}
	set = api.Term{sort(1, 1), atom(0, 0)}
)

// sized answers a closed term of just so many nodes, which names the entry 0 as a family.
func sized(n int) api.Term {
	t := slices.Repeat(api.Term{app, ind(0)}, (n-1)/2)
	if n%2 == 0 {
		return join(t, set)
	}
	return append(t, ind(0))
}

// short answers what is shown of a row.
func short(t api.Term) api.Term { return t[:min(len(t), 12)] }

// tree is a term as layer 4's table tells it: rows are held against it.
type tree struct {
	node   api.Node
	ahead  []api.Node // the atoms of a sort, the OpFuns of a fix
	kids   []*tree
	around []int
}

// many answers how many kids a node has and how many binders are around each, and whether it may stand where a term begins.
func many(n api.Node) ([]int, bool) {
	from := func(a, least, most int) bool { return least <= a && a <= most }
	switch n.Op {
	case 1:
		return nil, from(n.A, 0, 1048576) && n.B == 0
	case 2:
		return nil, from(n.A, 0, 1) && from(n.B, 1, 4)
	case 4, 5:
		return []int{0, 1}, n.A == 0 && n.B == 0
	case 6:
		return []int{0, 0}, n.A == 0 && n.B == 0
	case 7:
		return []int{0, 0, 1}, n.A == 0 && n.B == 0
	case 8, 9:
		return nil, from(n.A, 0, 63) && n.B == 0
	case 10:
		return nil, from(n.A, 0, 63) && from(n.B, 0, 15)
	case 11:
		if !from(n.A, 0, 63) || !from(n.B, 0, 16) {
			return nil, false
		}
		return make([]int, 2+n.B), true
	case 12:
		if !from(n.B, 1, 4) || !from(n.A, 0, n.B-1) {
			return nil, false
		}
		return slices.Repeat([]int{0, n.B}, n.B), true
	}
	return nil, false
}

// parse answers the tree of the term at a place of a row, and the place behind it; nothing, if none begins there.
func parse(row api.Term, at int) (*tree, int) {
	if at >= len(row) {
		return nil, -1
	}
	t := &tree{node: row[at]}
	around, ok := many(t.node)
	if !ok {
		return nil, -1
	}
	t.around = around
	at++
	if t.node.Op == 2 {
		least := 0
		for range t.node.B {
			if at == len(row) || row[at].Op != 3 || row[at].A < least || row[at].A > 16 || row[at].B < 0 || row[at].B > 1000 {
				return nil, -1
			}
			least = row[at].A + 1
			t.ahead = append(t.ahead, row[at])
			at++
		}
	}
	for i := range around {
		if t.node.Op == 12 && i%2 == 0 {
			if at == len(row) || row[at].Op != 13 || row[at].A < 0 || row[at].A > 15 || row[at].B != 0 {
				return nil, -1
			}
			t.ahead = append(t.ahead, row[at])
			at++
		}
		kid, end := parse(row, at)
		if kid == nil {
			return nil, -1
		}
		t.kids = append(t.kids, kid)
		at = end
	}
	return t, at
}

// shape answers the tree of a row that is right, else the error.
func shape(row api.Term) (*tree, api.Errno) {
	if len(row) > 4096 {
		return nil, api.ErrBig
	}
	t, end := parse(row, 0)
	if t == nil || end != len(row) {
		return nil, api.ErrShape
	}
	return t, api.OK
}

// row answers the tree's nodes in their order.
func (t *tree) row() api.Term {
	out := api.Term{t.node}
	if t.node.Op == 2 {
		out = append(out, t.ahead...)
	}
	for i, kid := range t.kids {
		if t.node.Op == 12 && i%2 == 0 {
			out = append(out, t.ahead[i/2])
		}
		out = append(out, kid.row()...)
	}
	return out
}

// turned answers the tree with f's answer in the place of each free variable, which stands under k binders.
func (t *tree) turned(k int, f func(free, k int) *tree) *tree {
	if t.node.Op == 1 && t.node.A >= k {
		return f(t.node.A-k, k)
	}
	out := *t
	out.kids = nil
	for i, kid := range t.kids {
		out.kids = append(out.kids, kid.turned(k+t.around[i], f))
	}
	return &out
}

// lift answers the lifted tree, and whether no variable is too great.
func (t *tree) lift(by, from int) (*tree, bool) {
	fits := true
	out := t.turned(0, func(free, k int) *tree {
		if free < from {
			return &tree{node: v(free + k)}
		}
		fits = fits && free+k+by <= 1<<20
		return &tree{node: v(free + k + by)}
	})
	return out, fits
}

// lift is layer 4's Lift of rows that are right.
func lift(row api.Term, by, from int) (api.Term, api.Errno) {
	t, _ := shape(row)
	out, fits := t.lift(by, from)
	if !fits {
		return nil, api.ErrLarge
	}
	return out.row(), api.OK
}

// subst is layer 4's Subst of rows that are right.
func subst(row, put api.Term, at int) (api.Term, api.Errno) {
	t, _ := shape(row)
	u, _ := shape(put)
	fits := true
	out := t.turned(0, func(free, k int) *tree {
		switch {
		case free < at:
			return &tree{node: v(free + k)}
		case free > at:
			return &tree{node: v(free + k - 1)}
		}
		in, ok := u.lift(at+k, 0)
		fits = fits && ok
		return in
	}).row()
	switch {
	case !fits:
		return nil, api.ErrLarge
	case len(out) > 4096:
		return nil, api.ErrBig
	}
	return out, api.OK
}

// rowIs is the chapter's "below n", of a row of the entry at; itself tells whether the entry may name itself as a family.
func rowIs(b api.Book, at int, itself bool, row api.Term, n int) api.Errno {
	t, e := shape(row)
	if e != api.OK {
		return e
	}
	t.turned(0, func(free, k int) *tree {
		if free >= n {
			e = api.ErrShape
		}
		return &tree{}
	})
	for _, node := range row {
		kind := 0
		switch node.Op {
		case api.OpAtom:
			if node.A > b.Vars {
				return api.ErrShape
			}
			continue
		case api.OpConst:
			kind = api.Def
		case api.OpInd, api.OpCtor, api.OpMatch:
			kind = api.Family
		default:
			continue
		}
		if itself && node.Op == api.OpInd && node.A == at {
			continue
		}
		if node.A >= at || b.Entries[node.A].Kind != kind || node.Op == api.OpCtor && node.B >= len(b.Entries[node.A].Ctors) {
			return api.ErrShape
		}
	}
	return e
}

// entryIs is the chapter's list of an entry's faults.
func entryIs(b api.Book, at int) api.Errno {
	x := b.Entries[at]
	if x.Kind != 1 && x.Kind != 2 || x.Kind == 1 && len(x.Type)+len(x.Body) > 0 || x.Kind == 2 && len(x.Sort)+len(x.Params)+len(x.Indices)+len(x.Ctors) > 0 {
		return api.ErrShape
	}
	if len(x.Params) > 16 || len(x.Indices) > 16 || len(x.Ctors) > 16 {
		return api.ErrFull
	}
	var e api.Errno
	row := func(t api.Term, n int, itself bool) {
		if e == api.OK {
			e = rowIs(b, at, itself, t, n)
		}
	}
	if x.Kind == 2 {
		row(x.Type, 0, false)
		row(x.Body, 0, false)
		return e
	}
	row(x.Sort, 0, false)
	if e == api.OK && x.Sort[0].Op != api.OpSort {
		e = api.ErrShape
	}
	for i, t := range x.Params {
		row(t, i, false)
	}
	for j, t := range x.Indices {
		row(t, len(x.Params)+j, false)
	}
	for _, c := range x.Ctors {
		switch {
		case e == api.OK && len(c.Args) > 16:
			e = api.ErrFull
		case e == api.OK && len(c.Out) != len(x.Indices):
			e = api.ErrShape
		}
		for i, t := range c.Args {
			row(t, len(x.Params)+i, true)
		}
		for _, t := range c.Out {
			row(t, len(x.Params)+len(c.Args), true)
		}
	}
	return e
}

// primsAre tells whether Nat and the primitives are as they must be.
func primsAre(b api.Book) bool {
	if b.Nat != -1 {
		if b.Nat < 0 || b.Nat >= len(b.Entries) || b.Entries[b.Nat].Kind != 1 {
			return false
		}
		f := b.Entries[b.Nat]
		if !slices.Equal(f.Sort, set) || len(f.Params) != 0 || len(f.Indices) != 0 || len(f.Ctors) != 2 || len(f.Ctors[0].Args) != 0 || len(f.Ctors[1].Args) != 1 || !slices.Equal(f.Ctors[1].Args[0], api.Term{ind(b.Nat)}) {
			return false
		}
	}
	entries, ids := map[int]int{}, map[int]int{}
	for _, p := range b.Prims {
		if p.Entry < 0 || p.Entry >= len(b.Entries) || b.Entries[p.Entry].Kind != 2 || p.Id != 1 && p.Id != 2 && p.Id != 3 {
			return false
		}
		entries[p.Entry]++
		ids[p.Id]++
	}
	return len(entries) == len(b.Prims) && len(ids) == len(b.Prims) && (len(b.Prims) == 0 || b.Nat != -1)
}

// rightIs is the chapter's Right.
func rightIs(b api.Book) api.Errno {
	if e := level.Check(b.Vars, b.Orders); e != api.OK {
		return e
	}
	if len(b.Entries) > 64 {
		return api.ErrFull
	}
	for at := range b.Entries {
		if e := entryIs(b, at); e != api.OK {
			return e
		}
	}
	if !primsAre(b) {
		return api.ErrPrim
	}
	return api.OK
}

// fitsIs is the chapter's Fits.
func fitsIs(b api.Book, free int, t api.Term) api.Errno {
	if e := rightIs(b); e != api.OK {
		return e
	}
	if free < 0 {
		return api.ErrArg
	}
	return rowIs(b, len(b.Entries), false, t, free)
}
