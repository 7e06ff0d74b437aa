package term_test

import (
	"math"
	"math/big"
	"slices"

	"retort/api"
)

func v(n int) api.Node       { return api.Node{Op: api.OpVar, A: n} }
func fix(j, n int) api.Node  { return api.Node{Op: api.OpFix, A: j, B: n} }
func fun(at int) api.Node    { return api.Node{Op: api.OpFun, A: at} }
func match(n int) api.Node   { return api.Node{Op: api.OpMatch, A: 2, B: n} }
func sort(n int) api.Node    { return api.Node{Op: api.OpSort, A: api.Type, B: n} }
func atom(w, a int) api.Node { return api.Node{Op: api.OpAtom, A: w, B: a} }

func join(rows ...api.Term) api.Term { return slices.Concat(rows...) }

var (
	pi  = api.Node{Op: api.OpPi}
	lam = api.Node{Op: api.OpLam}
	app = api.Node{Op: api.OpApp}
	let = api.Node{Op: api.OpLet}
	ind = api.Node{Op: api.OpInd, A: 1}
)

// tree is a term as the chapter's table tells it: a second telling of it, against which rows are held.
type tree struct {
	node   api.Node
	atoms  []api.Node
	funs   []api.Node
	kids   []*tree
	around []int
}

// many answers how many kids a node has and how many binders are around each, and whether it may stand where a term begins.
func many(n api.Node) ([]int, bool) {
	from := func(a, least, most int) bool { return least <= a && a <= most }
	switch n.Op {
	case 1:
		return nil, from(n.A, 0, 1048576) && n.B == 0
	case 2:
		return nil, from(n.A, 0, 1) && from(n.B, 1, 4)
	case 4, 5:
		return []int{0, 1}, n.A == 0 && n.B == 0
	case 6:
		return []int{0, 0}, n.A == 0 && n.B == 0
	case 7:
		return []int{0, 0, 1}, n.A == 0 && n.B == 0
	case 8, 9:
		return nil, from(n.A, 0, 63) && n.B == 0
	case 10:
		return nil, from(n.A, 0, 63) && from(n.B, 0, 15)
	case 11:
		if !from(n.A, 0, 63) || !from(n.B, 0, 16) {
			return nil, false
		}
		return make([]int, 2+n.B), true
	case 12:
		if !from(n.B, 1, 4) || !from(n.A, 0, n.B-1) {
			return nil, false
		}
		return slices.Repeat([]int{0, n.B}, n.B), true
	}
	return nil, false
}

// parse answers the tree of the term at a place of a row, and the place behind it; nothing, if none begins there.
func parse(row api.Term, at int) (*tree, int) {
	if at < 0 || at >= len(row) {
		return nil, -1
	}
	t := &tree{node: row[at]}
	around, ok := many(t.node)
	if !ok {
		return nil, -1
	}
	t.around = around
	at++
	if t.node.Op == 2 {
		least := 0
		for range t.node.B {
			if at == len(row) || row[at].Op != 3 || row[at].A < least || row[at].A > 16 || row[at].B < 0 || row[at].B > 1000 {
				return nil, -1
			}
			least = row[at].A + 1
			t.atoms = append(t.atoms, row[at])
			at++
		}
	}
	for i := range around {
		if t.node.Op == 12 && i%2 == 0 {
			if at == len(row) || row[at].Op != 13 || row[at].A < 0 || row[at].A > 15 || row[at].B != 0 {
				return nil, -1
			}
			t.funs = append(t.funs, row[at])
			at++
		}
		kid, end := parse(row, at)
		if kid == nil {
			return nil, -1
		}
		t.kids = append(t.kids, kid)
		at = end
	}
	return t, at
}

// shape answers the tree of a row that is right, else the error.
func shape(row api.Term) (*tree, api.Errno) {
	if len(row) > 4096 {
		return nil, api.ErrBig
	}
	t, end := parse(row, 0)
	if end != len(row) || t == nil {
		return nil, api.ErrShape
	}
	return t, api.OK
}

// row answers the tree's nodes in their order.
func (t *tree) row() api.Term {
	out := append(api.Term{t.node}, t.atoms...)
	for i, kid := range t.kids {
		if t.node.Op == 12 && i%2 == 0 {
			out = append(out, t.funs[i/2])
		}
		out = append(out, kid.row()...)
	}
	return out
}

// turned answers the tree with f's answer in the place of each free variable, which stands under k binders.
func (t *tree) turned(k int, f func(free, k int) *tree) *tree {
	if t.node.Op == 1 && t.node.A >= k {
		return f(t.node.A-k, k)
	}
	out := *t
	out.kids = nil
	for i, kid := range t.kids {
		out.kids = append(out.kids, kid.turned(k+t.around[i], f))
	}
	return &out
}

// free answers the free variables of the tree, in order.
func (t *tree) free() []int {
	var list []int
	t.turned(0, func(free, k int) *tree {
		list = append(list, free)
		return &tree{}
	})
	return list
}

// lift answers the lifted tree, and whether no variable is too great by exact numbers.
func (t *tree) lift(by, from int) (*tree, bool) {
	fits := true
	out := t.turned(0, func(free, k int) *tree {
		if free < from {
			return &tree{node: v(free + k)}
		}
		sum := new(big.Int).Add(big.NewInt(int64(free+k)), big.NewInt(int64(by)))
		if sum.Cmp(big.NewInt(1<<20)) > 0 {
			fits = false
			return &tree{node: v(0)}
		}
		return &tree{node: v(int(sum.Int64()))}
	})
	return out, fits
}

// lift is the chapter's Lift.
func lift(row api.Term, by, from int) (api.Term, api.Errno) {
	t, e := shape(row)
	switch {
	case e != api.OK:
		return nil, e
	case by < 0 || from < 0:
		return nil, api.ErrArg
	}
	out, fits := t.lift(by, from)
	if !fits {
		return nil, api.ErrLarge
	}
	return out.row(), api.OK
}

// subst is the chapter's Subst.
func subst(row, put api.Term, at int) (api.Term, api.Errno) {
	t, e := shape(row)
	if e != api.OK {
		return nil, e
	}
	u, e := shape(put)
	switch {
	case e != api.OK:
		return nil, e
	case at < 0:
		return nil, api.ErrArg
	}
	fits := true
	out := t.turned(0, func(free, k int) *tree {
		switch {
		case free < at:
			return &tree{node: v(free + k)}
		case free > at:
			return &tree{node: v(free + k - 1)}
		}
		in, ok := u.lift(at+k, 0)
		fits = fits && ok
		return in
	}).row()
	switch {
	case !fits:
		return nil, api.ErrLarge
	case len(out) > 4096:
		return nil, api.ErrBig
	}
	return out, api.OK
}

// sized answers a closed term of just so many nodes.
func sized(n int) api.Term {
	t := slices.Repeat(api.Term{app, ind}, (n-1)/2)
	if n%2 == 0 {
		return append(t, sort(1), atom(0, 0))
	}
	return append(t, ind)
}

// repeated answers a list with so many times that row.
func repeated(t api.Term, times int) []api.Term { return slices.Repeat([]api.Term{t}, times) }

// dice is a short rule that makes numbers, the same ones each time.
type dice uint64

// below answers a number from 0 on that is below n.
func (d *dice) below(n int) int {
	*d = *d*6364136223846793005 + 1442695040888963407
	return int(*d>>33) % n
}

// leaf makes a term without kids, a variable mostly: one that is just bound, or just free, under k binders.
func (d *dice) leaf(k int) api.Term {
	switch d.below(8) {
	case 0:
		t := api.Term{sort(1 + d.below(4))}
		for i := range t[0].B {
			t = append(t, atom(4*i+d.below(4), d.below(1001)))
		}
		return t
	case 1:
		return api.Term{{Op: api.OpConst + d.below(2), A: d.below(64)}}
	case 2:
		return api.Term{{Op: api.OpCtor, A: d.below(64), B: d.below(16)}}
	case 3:
		return api.Term{v(1<<20 - d.below(3))}
	}
	return api.Term{v(max(0, k-2+d.below(6)))}
}

// term makes a term of nested nodes, as deep as that, under k binders.
func (d *dice) term(deep, k int) api.Term {
	if deep == 0 || d.below(6) == 0 {
		return d.leaf(k)
	}
	ops := []api.Node{pi, lam, app, app, let, match(d.below(4)), fix(0, 1+d.below(4))}
	n := ops[d.below(len(ops))]
	if n.Op == api.OpFix {
		n.A = d.below(n.B)
	}
	t := api.Term{n}
	around, _ := many(n)
	for i, more := range around {
		if n.Op == api.OpFix && i%2 == 0 {
			t = append(t, fun(d.below(16)))
		}
		t = append(t, d.term(deep-1, k+more)...)
	}
	return t
}

// broken makes a row that is often no term: one with a node changed, left out, or put in.
func (d *dice) broken() api.Term {
	t := d.term(3, 0)
	switch at := d.below(len(t)); d.below(4) {
	case 0:
		t[at] = d.wildNode()
	case 1:
		t = slices.Delete(t, at, at+1)
	case 2:
		t = slices.Insert(t, at, d.wildNode())
	}
	return t
}

// wildNode makes a node that hardly ever may stand.
func (d *dice) wildNode() api.Node {
	if d.below(2) == 0 {
		return api.Node{Op: d.below(15), A: d.below(3), B: d.below(3)}
	}
	return api.Node{Op: d.wild(), A: d.wild(), B: d.wild()}
}

// wild makes a number: one at an edge, or beyond any size.
func (d *dice) wild() int {
	edges := []int{math.MinInt, math.MinInt + 1, -1 << 32, -2, -1, 0, 0, 0, 1, 1, 1, 2, 2, 3, 4, 5, 6, 13, 14, 15, 16, 63, 64, 1<<20 - 1, 1 << 20, 1<<20 + 1, 1 << 32, math.MaxInt - 1, math.MaxInt}
	return edges[d.below(len(edges))]
}
