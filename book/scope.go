package book

import (
	"slices"

	"retort/api"
	"retort/term"
)

// scope is what rows may name: variables of universes up to vars, and entries and constructors by nodes. A node is in names as it stands in a row, but a match without the number of its branches.
type scope struct {
	vars  int
	names map[api.Node]struct{}
}

// know adds names.
func (s scope) know(list ...api.Node) {
	for _, n := range list {
		s.names[n] = struct{}{}
	}
}

// knows tells whether there is such a name.
func (s scope) knows(n api.Node) bool {
	_, ok := s.names[n]
	return ok
}

// entryFault answers what is wrong with an entry, in the scope of those ahead of it. A right one is known from there on.
func (s scope) entryFault(at int, x api.Entry) api.Errno {
	switch x.Kind {
	case api.Family:
		return s.familyFault(at, x)
	case api.Def:
		return s.defFault(at, x)
	}
	return api.ErrShape
}

// defFault answers what is wrong with a definition.
func (s scope) defFault(at int, d api.Entry) api.Errno {
	if len(d.Sort) > 0 || len(d.Params) > 0 || len(d.Indices) > 0 || len(d.Ctors) > 0 {
		return api.ErrShape
	}
	if e := firstFault([]api.Term{d.Type, d.Body}, s.closedFault); e != api.OK {
		return e
	}
	s.know(api.Node{Op: api.OpConst, A: at})
	return api.OK
}

// familyFault answers what is wrong with a family.
func (s scope) familyFault(at int, f api.Entry) api.Errno {
	switch {
	case len(f.Type) > 0 || len(f.Body) > 0:
		return api.ErrShape
	case len(f.Params) > api.MaxArgs || len(f.Indices) > api.MaxArgs || len(f.Ctors) > api.MaxCtors:
		return api.ErrFull
	}
	if e := s.rowFault(f.Sort, 0); e != api.OK {
		return e
	}
	if f.Sort[0].Op != api.OpSort {
		return api.ErrShape
	}
	if e := firstFault(slices.Concat(f.Params, f.Indices), s.rowFaultAt); e != api.OK {
		return e
	}
	s.know(api.Node{Op: api.OpInd, A: at}) // its constructors may name it so already, and in no other way
	if e := firstFault(f.Ctors, func(_ int, c api.Ctor) api.Errno { return s.ctorFault(f, c) }); e != api.OK {
		return e
	}
	s.know(api.Node{Op: api.OpMatch, A: at})
	for k := range f.Ctors {
		s.know(api.Node{Op: api.OpCtor, A: at, B: k})
	}
	return api.OK
}

// ctorFault answers what is wrong with a constructor of a family.
func (s scope) ctorFault(f api.Entry, c api.Ctor) api.Errno {
	switch {
	case len(c.Args) > api.MaxArgs:
		return api.ErrFull
	case len(c.Out) != len(f.Indices):
		return api.ErrShape
	}
	args := len(f.Params)
	out := args + len(c.Args)
	if e := firstFault(c.Args, func(i int, t api.Term) api.Errno { return s.rowFault(t, args+i) }); e != api.OK {
		return e
	}
	return firstFault(c.Out, func(_ int, t api.Term) api.Errno { return s.rowFault(t, out) })
}

// rowFault answers ErrBig, if a row has too many nodes, ErrShape, if it is no term, has a free variable that is not below free, or names what there is not.
func (s scope) rowFault(t api.Term, free int) api.Errno {
	switch {
	case len(t) > api.MaxTerm:
		return api.ErrBig
	case !term.Below(t, free) || slices.ContainsFunc(t, s.strange):
		return api.ErrShape
	}
	return api.OK
}

// rowFaultAt is for rows that stand under those ahead of them, and nothing else.
func (s scope) rowFaultAt(i int, t api.Term) api.Errno { return s.rowFault(t, i) }

// closedFault is for rows that stand under nothing.
func (s scope) closedFault(_ int, t api.Term) api.Errno { return s.rowFault(t, 0) }

// strange tells whether a node of a right row names what there is not.
func (s scope) strange(n api.Node) bool {
	switch n.Op {
	case api.OpAtom:
		return n.A > s.vars
	case api.OpConst, api.OpInd, api.OpCtor:
		return !s.knows(n)
	case api.OpMatch:
		return !s.knows(api.Node{Op: n.Op, A: n.A})
	}
	return false
}

// firstFault answers the first error that is found in a list.
func firstFault[T any](list []T, fault func(i int, thing T) api.Errno) api.Errno {
	for i, thing := range list {
		if e := fault(i, thing); e != api.OK {
			return e
		}
	}
	return api.OK
}
