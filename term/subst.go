package term

import (
	"math"
	"slices"

	"retort/api"
)

// Lift answers t with its free variables from one on higher by so much: ErrLarge, if one would be beyond its limit.
func Lift(t api.Term, by, from int) (api.Term, api.Errno) {
	if e := Shape(t); e != api.OK {
		return nil, e
	}
	if by < 0 || from < 0 {
		return nil, api.ErrArg
	}
	if by > room(t, from) {
		return nil, api.ErrLarge
	}
	return lifted(t, by, from), api.OK
}

// room answers by how much the free variables of a right row from one on can be lifted at most.
func room(t api.Term, from int) int {
	most := math.MaxInt
	frees(t, func(at, v int) {
		if v >= from {
			most = min(most, api.MostNum-t[at].A)
		}
	})
	return most
}

// lifted answers a right row, lifted by no more than there is room for.
func lifted(t api.Term, by, from int) api.Term {
	out := slices.Clone(t)
	frees(t, func(at, v int) {
		if v >= from {
			out[at].A += by
		}
	})
	return out
}

// Subst answers t with u, lifted, in the place of the free variable at, and those above lower by one: ErrLarge, if a variable of u would be beyond its limit, else ErrBig, if there would be too many nodes.
func Subst(t, u api.Term, at int) (api.Term, api.Errno) {
	if e := firstFault(t, u); e != api.OK {
		return nil, e
	}
	if at < 0 {
		return nil, api.ErrArg
	}
	out := growing{nodes: make(api.Term, 0, len(t))}
	most := room(u, 0)
	e := caught(func() {
		walk(t, 0, func(place, around int) {
			n := t[place]
			switch v := freeOf(n, around); {
			case v < at:
				out.put(n)
			case v > at:
				n.A--
				out.put(n)
			case at+around > most:
				panic(fault(api.ErrLarge))
			default:
				out.putLifted(u, at+around)
			}
		})
	})
	if e != api.OK {
		return nil, e
	}
	return out.row()
}

// Free tells whether the free variable v stands in a right row.
func Free(t api.Term, v int) bool {
	if Shape(t) != api.OK {
		return false
	}
	found := false
	frees(t, func(_, w int) { found = found || w == v })
	return found
}

// Below tells whether a row is right, and all its free variables are below n.
func Below(t api.Term, n int) bool {
	if Shape(t) != api.OK {
		return false
	}
	below := true
	frees(t, func(_, v int) { below = below && v < n })
	return below
}
