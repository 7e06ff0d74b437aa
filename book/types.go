package book

import (
	"slices"

	"retort/api"
	"retort/term"
)

// IndType answers a family's type, the products over its parameters and indices: Right's error; ErrArg, if e is no family's entry; ErrBig.
func IndType(b api.Book, e int) (api.Term, api.Errno) {
	s, fault := look(b)
	switch {
	case fault != api.OK:
		return nil, fault
	case !s.knows(api.Node{Op: api.OpInd, A: e}):
		return nil, api.ErrArg
	}
	f := b.Entries[e]
	return term.Bind(api.OpPi, slices.Concat(f.Params, f.Indices), f.Sort)
}

// CtorType answers a constructor's type, the products over the parameters and its arguments: Right's error; ErrArg, if there is no such constructor; ErrBig.
func CtorType(b api.Book, e, k int) (api.Term, api.Errno) {
	f, c, fault := constructor(b, e, k)
	if fault != api.OK {
		return nil, fault
	}
	args := slices.Concat(variables(len(f.Params), len(c.Args)), c.Out)
	made, fault := term.Apply(api.Term{{Op: api.OpInd, A: e}}, args...)
	if fault != api.OK {
		return nil, fault
	}
	return term.Bind(api.OpPi, slices.Concat(f.Params, c.Args), made)
}

// Branch answers the type of a branch of a match, the products over the constructor's arguments: Right's error; ErrArg, if there is no such constructor, or more or fewer params than it has; Shape's error of the params and of the motive; the first error of what layer 4 is asked for.
func Branch(b api.Book, e, k int, params []api.Term, motive api.Term) (api.Term, api.Errno) {
	f, c, fault := constructor(b, e, k)
	switch {
	case fault != api.OK:
		return nil, fault
	case len(params) != len(f.Params):
		return nil, api.ErrArg
	}
	shape := func(_ int, t api.Term) api.Errno { return term.Shape(t) }
	if fault := firstFault(slices.Concat(params, []api.Term{motive}), shape); fault != api.OK {
		return nil, fault
	}
	open, fault := openBranch(c, api.Node{Op: api.OpCtor, A: e, B: k}, len(params), motive)
	if fault != api.OK {
		return nil, fault
	}
	return filled(open, params)
}

// openBranch answers the type of a branch that stands under so many parameters, as variables.
func openBranch(c api.Ctor, name api.Node, params int, motive api.Term) (api.Term, api.Errno) {
	args := len(c.Args)
	motive, fault := term.Lift(motive, params+args, 0)
	if fault != api.OK {
		return nil, fault
	}
	made, fault := term.Apply(api.Term{name}, variables(params+args, 0)...)
	if fault != api.OK {
		return nil, fault
	}
	body, fault := term.Apply(motive, slices.Concat(c.Out, []api.Term{made})...)
	if fault != api.OK {
		return nil, fault
	}
	return term.Bind(api.OpPi, c.Args, body)
}

// filled answers a row that stands under as many variables as there are params, with these in their places. The last one goes first: its place is always the innermost.
func filled(t api.Term, params []api.Term) (api.Term, api.Errno) {
	for i, p := range slices.Backward(params) {
		p, fault := term.Lift(p, i, 0)
		if fault != api.OK {
			return nil, fault
		}
		t, fault = term.Subst(t, p, 0)
		if fault != api.OK {
			return nil, fault
		}
	}
	return t, api.OK
}

// constructor answers a family of a book, and a constructor of it: Right's error; ErrArg, if there is none.
func constructor(b api.Book, e, k int) (api.Entry, api.Ctor, api.Errno) {
	s, fault := look(b)
	switch {
	case fault != api.OK:
		return api.Entry{}, api.Ctor{}, fault
	case !s.knows(api.Node{Op: api.OpCtor, A: e, B: k}):
		return api.Entry{}, api.Ctor{}, api.ErrArg
	}
	f := b.Entries[e]
	return f, f.Ctors[k], api.OK
}

// variables answers so many variables as rows, the outermost one first, with others inside of them.
func variables(many, inside int) []api.Term {
	list := make([]api.Term, many)
	for i := range list {
		list[i] = api.Term{{Op: api.OpVar, A: inside + many - 1 - i}}
	}
	return list
}
