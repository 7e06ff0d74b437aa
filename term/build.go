package term

import "retort/api"

// growing is a row that is put together. What goes beyond MaxTerm is counted, and not kept: other faults may still be found behind it.
type growing struct {
	nodes api.Term
	many  int
}

// fits counts so many nodes more, and tells whether there is room for them.
func (g *growing) fits(more int) bool {
	g.many += more
	return g.many <= api.MaxTerm
}

// put puts nodes behind those that are there.
func (g *growing) put(list ...api.Node) {
	if g.fits(len(list)) {
		g.nodes = append(g.nodes, list...)
	}
}

// putLifted puts a right row, lifted by no more than there is room for. A row that is only counted is not gone through: there may be thousands of them.
func (g *growing) putLifted(t api.Term, by int) {
	if g.fits(len(t)) {
		g.nodes = append(g.nodes, lifted(t, by, 0)...)
	}
}

// row answers what was put together: ErrBig, if that is too much.
func (g *growing) row() (api.Term, api.Errno) {
	if g.many > api.MaxTerm {
		return nil, api.ErrBig
	}
	return g.nodes, api.OK
}

// Apply answers f, applied to the arguments: ErrBig, if that has too many nodes.
func Apply(f api.Term, args ...api.Term) (api.Term, api.Errno) {
	if e := firstFault(f); e != api.OK {
		return nil, e
	}
	if e := firstFault(args...); e != api.OK {
		return nil, e
	}
	var out growing
	for range args {
		out.put(api.Node{Op: api.OpApp})
	}
	out.put(f...)
	for _, arg := range args {
		out.put(arg...)
	}
	return out.row()
}

// Bind answers the products, or functions, over all domains around t: ErrArg, if op is neither of the two, ErrBig, if that has too many nodes.
func Bind(op int, doms []api.Term, t api.Term) (api.Term, api.Errno) {
	if op != api.OpPi && op != api.OpLam {
		return nil, api.ErrArg
	}
	if e := firstFault(doms...); e != api.OK {
		return nil, e
	}
	if e := firstFault(t); e != api.OK {
		return nil, e
	}
	var out growing
	for _, dom := range doms {
		out.put(api.Node{Op: op})
		out.put(dom...)
	}
	out.put(t...)
	return out.row()
}
