package term

import (
	"slices"

	"retort/api"
)

// limit tells what a node may hold: A from 0 to mostA, B from leastB to mostB.
type limit struct{ mostA, leastB, mostB int }

// limits stand at the nodes' Ops.
var limits = [...]limit{
	api.OpVar:   {mostA: api.MostNum},
	api.OpSort:  {mostA: api.Type, leastB: 1, mostB: api.MaxAtoms},
	api.OpAtom:  {mostA: api.MaxVars, mostB: api.MaxAdd},
	api.OpPi:    {},
	api.OpLam:   {},
	api.OpApp:   {},
	api.OpLet:   {},
	api.OpConst: {mostA: api.MaxEntries - 1},
	api.OpInd:   {mostA: api.MaxEntries - 1},
	api.OpCtor:  {mostA: api.MaxEntries - 1, mostB: api.MaxCtors - 1},
	api.OpMatch: {mostA: api.MaxEntries - 1, mostB: api.MaxCtors},
	api.OpFix:   {mostA: api.MaxFuns - 1, leastB: 1, mostB: api.MaxFuns},
	api.OpFun:   {mostA: api.MaxArgs - 1},
}

// holds tells whether a node has a known Op, and an A and a B that may stand with it.
func holds(n api.Node) bool {
	if n.Op < api.OpVar || n.Op >= len(limits) {
		return false
	}
	l := limits[n.Op]
	within := 0 <= n.A && n.A <= l.mostA && l.leastB <= n.B && n.B <= l.mostB
	return within && (n.Op != api.OpFix || n.A < n.B)
}

// part is what a row must have next: a term, or, if op is not 0, the one node of that Op, OpAtom or OpFun. So many binders are around it.
type part struct{ op, around int }

// begins tells whether the part can begin with this node. The one ahead of it matters to atoms alone: they come directly behind their sort, or the atom before.
func (p part) begins(n, ahead api.Node) bool {
	if !holds(n) {
		return false
	}
	switch n.Op {
	case api.OpAtom:
		return p.op == api.OpAtom && (ahead.Op == api.OpSort || ahead.A < n.A)
	case api.OpFun:
		return p.op == api.OpFun
	}
	return p.op == 0
}

// follow answers todo, and behind it the parts of a node, the first one last: it is taken off first.
func follow(todo []part, n api.Node, around int) []part {
	plain, under := part{around: around}, part{around: around + 1}
	switch n.Op {
	case api.OpSort:
		for range n.B {
			todo = append(todo, part{api.OpAtom, around})
		}
	case api.OpPi, api.OpLam:
		todo = append(todo, under, plain)
	case api.OpApp:
		todo = append(todo, plain, plain)
	case api.OpLet:
		todo = append(todo, under, plain, plain)
	case api.OpMatch:
		for range n.B + 2 {
			todo = append(todo, plain)
		}
	case api.OpFix:
		for range n.B {
			todo = append(todo, part{around: around + n.B}, plain, part{api.OpFun, around})
		}
	}
	return todo
}

// walk goes through the nodes of the term that begins at a place of any row: visit is told each one's place, and how many binders of the term are around it. It answers the place behind the term, or gives up by a fault, if there is none. It keeps a list of its own of what is to come, for a row that is no term may be nested as deep as it is long.
func walk(row api.Term, at int, visit func(at, around int)) int {
	if at < 0 {
		panic(fault(api.ErrShape))
	}
	todo := make([]part, 1, 64)
	var ahead api.Node
	for len(todo) > 0 {
		last := len(todo) - 1
		next := todo[last]
		if len(todo) > len(row)-at || !next.begins(row[at], ahead) { // each part is a node at least
			panic(fault(api.ErrShape))
		}
		visit(at, next.around)
		ahead = row[at]
		todo = follow(todo[:last], ahead, next.around)
		at++
	}
	return at
}

// pass is for walks that want the place behind alone.
func pass(at, around int) {}

// kids hands each kid of a right row to visit, and how many binders of the first node are around it. A kid is a piece of the row.
func kids(t api.Term, visit func(kid api.Term, around int)) {
	at := 1
	for _, p := range slices.Backward(follow(nil, t[0], 0)) {
		if p.op != 0 {
			at++
			continue
		}
		end := walk(t, at, pass)
		visit(t[at:end], p.around)
		at = end
	}
}

// freeOf answers the free variable that a node is under so many binders: a number below 0, if it is none.
func freeOf(n api.Node, around int) int {
	if n.Op != api.OpVar {
		return -1
	}
	return n.A - around
}

// frees hands the place of each free variable of a right row to visit, and which one it is.
func frees(t api.Term, visit func(at, v int)) {
	walk(t, 0, func(at, around int) {
		if v := freeOf(t[at], around); v >= 0 {
			visit(at, v)
		}
	})
}

// fault is an error by which the walk through a row gives up.
type fault api.Errno

// caught does what may give up, and answers the error by which it did.
func caught(do func()) (e api.Errno) {
	defer func() {
		if r := recover(); r != nil {
			f, ok := r.(fault)
			if !ok {
				panic(r)
			}
			e = api.Errno(f)
		}
	}()
	do()
	return api.OK
}
