package level

import (
	"slices"

	"retort/api"
)

// pair is two variables: by how much the first one is below the second one is what is asked.
type pair struct{ low, high int }

// distances tells of pairs by how much the first one is below the second one at least, in all values that meet the orders. A pair that is not in it has no such bound.
type distances map[pair]int

// Check answers ErrArg or ErrFull, if the orders are not right over vars, ErrCycle, if no values meet them.
func Check(vars int, orders []api.Order) api.Errno {
	_, e := reckon(vars, orders)
	return e
}

// Least answers the least values that meet the orders, or Check's error.
func Least(vars int, orders []api.Order) ([]int, api.Errno) {
	d, e := reckon(vars, orders)
	if e != api.OK {
		return nil, e
	}
	vals := make([]int, vars)
	for i := range vars {
		vals[i] = d[pair{0, i + 1}]
	}
	return vals, api.OK
}

// Gap answers by how much low is always below high, and whether there is such a number.
func Gap(vars int, orders []api.Order, low, high int) (int, bool) {
	d, _ := reckon(vars, orders) // beside an error there is no pair
	by, ok := d[pair{low, high}]
	return by, ok
}

// Under tells whether both levels are right, and each atom of a is always at most one and the same atom of b.
func Under(vars int, orders []api.Order, a, b api.Level) bool {
	d, e := reckon(vars, orders)
	if e != api.OK || !Right(a, vars) || !Right(b, vars) {
		return false
	}
	for _, low := range a {
		if !slices.ContainsFunc(b, func(high api.Atom) bool { return d.under(low, high) }) {
			return false
		}
	}
	return true
}

// under tells whether an atom is always at most another one.
func (d distances) under(low, high api.Atom) bool {
	by, ok := d[pair{low.Var, high.Var}]
	return ok && by >= low.Add-high.Add
}

// fault answers what makes the orders not right over vars.
func fault(vars int, orders []api.Order) api.Errno {
	switch {
	case !within(vars, 0, api.MaxVars):
		return api.ErrArg
	case len(orders) > api.MaxOrders:
		return api.ErrFull
	}
	for _, o := range orders {
		if !within(o.Low, 0, vars) || !within(o.High, 0, vars) || !within(o.Add, -api.MaxAdd, api.MaxAdd) {
			return api.ErrArg
		}
	}
	return api.OK
}

// reckon answers the distances of all pairs that have one, or Check's error. In each round the ways through one more variable are added to those through the ones ahead of it.
func reckon(vars int, orders []api.Order) (distances, api.Errno) {
	if e := fault(vars, orders); e != api.OK {
		return nil, e
	}
	d := told(vars, orders)
	for mid := range vars + 1 {
		// A variable above itself: each cycle is found here when the rounds come to its last variable, so none is gone through again and again.
		if d[pair{mid, mid}] > 0 {
			return nil, api.ErrCycle
		}
		d.through(mid, vars)
	}
	return d, api.OK
}

// told answers what the orders say by themselves, and that no value is below 0.
func told(vars int, orders []api.Order) distances {
	d := distances{}
	for v := range vars + 1 {
		d.raise(pair{0, v}, 0)
		d.raise(pair{v, v}, 0)
	}
	for _, o := range orders {
		d.raise(pair{o.Low, o.High}, o.Add)
	}
	return d
}

// through adds the ways from variable to variable that lead through mid.
func (d distances) through(mid, vars int) {
	for low := range vars + 1 {
		first, ok := d[pair{low, mid}]
		if !ok {
			continue
		}
		for high := range vars + 1 {
			if second, ok := d[pair{mid, high}]; ok {
				d.raise(pair{low, high}, first+second)
			}
		}
	}
}

// raise makes a pair's distance at least so much.
func (d distances) raise(p pair, by int) {
	if known, ok := d[p]; !ok || known < by {
		d[p] = by
	}
}
