package level_test

import (
	"math"
	"slices"

	"retort/api"
)

// dice is a short rule that makes numbers, the same ones each time.
type dice uint64

// below answers a number from 0 on that is below n.
func (d *dice) below(n int) int {
	*d = *d*6364136223846793005 + 1442695040888963407
	return int(*d>>33) % n
}

// from answers a number from least to most.
func (d *dice) from(least, most int) int { return least + d.below(most-least+1) }

// level makes a right level over vars.
func (d *dice) level(vars int) api.Level {
	var l api.Level
	want := d.from(1, min(api.MaxAtoms, vars+1))
	for v := range vars + 1 {
		left := vars - v // how many variables come behind this one
		if len(l) < want && (d.below(2) == 0 || left < want-len(l)) {
			l = append(l, api.Atom{Var: v, Add: d.from(0, 3)})
		}
	}
	return l
}

// orders makes right orders over vars, with Adds up to so much above and below 0.
func (d *dice) orders(vars, many, most int) []api.Order {
	list := make([]api.Order, d.from(0, many))
	for i := range list {
		list[i] = api.Order{Low: d.from(0, vars), Add: d.from(-most, most), High: d.from(0, vars)}
	}
	return list
}

// wild makes a number: one at an edge, or beyond any size.
func (d *dice) wild() int {
	edges := []int{math.MinInt, math.MinInt + 1, -1 << 32, -1001, -1000, -17, -2, -1, 0, 0, 1, 1, 2, 3, 4, 5, 15, 16, 17, 64, 65, 999, 1000, 1001, 1 << 32, math.MaxInt - 1, math.MaxInt}
	return edges[d.below(len(edges))]
}

// wildLevel makes a list of atoms that is hardly ever right.
func (d *dice) wildLevel() api.Level {
	l := make(api.Level, d.below(7))
	for i := range l {
		l[i] = api.Atom{Var: d.wild(), Add: d.wild()}
	}
	return l
}

// wildOrders makes a list of orders that is hardly ever right.
func (d *dice) wildOrders() []api.Order {
	list := make([]api.Order, d.below(5))
	for i := range list {
		list[i] = api.Order{Low: d.wild(), Add: d.wild(), High: d.wild()}
	}
	return list
}

// worth tells a variable's value by right orders' words: 0 for none.
func worth(vals []int, v int) int {
	if v == 0 {
		return 0
	}
	return vals[v-1]
}

// climb looks for the least values that meet orders with Adds of any size: from 0 on, whatever is too low is raised, till nothing is. Ways without a cycle have no more steps than there are variables, so what still rises then never ends.
func climb(vars int, orders []api.Order) ([]int, bool) {
	vals := make([]int, vars)
	for range vars + 2 {
		still := true
		for _, o := range orders {
			need := worth(vals, o.Low) + o.Add
			if need <= worth(vals, o.High) {
				continue
			}
			if o.High == 0 {
				return nil, false
			}
			vals[o.High-1] = need
			still = false
		}
		if still {
			return vals, true
		}
	}
	return nil, false
}

// atMost tells whether in all values that meet the orders, low's and add more is at most high's: no values meet them, and that high's is less, too.
func atMost(vars int, orders []api.Order, low, add, high int) bool {
	_, met := climb(vars, append(slices.Clone(orders), api.Order{Low: high, Add: 1 - add, High: low}))
	return !met
}

// allValues answers all lists of so many values from 0 to most.
func allValues(vars, most int) [][]int {
	lists := [][]int{{}}
	for range vars {
		var longer [][]int
		for _, list := range lists {
			for val := range most + 1 {
				longer = append(longer, append(slices.Clone(list), val))
			}
		}
		lists = longer
	}
	return lists
}

// chain answers orders by which each variable is below the next one by so much.
func chain(vars, add int) []api.Order {
	var list []api.Order
	for v := 1; v < vars; v++ {
		list = append(list, api.Order{Low: v, Add: add, High: v + 1})
	}
	return list
}
