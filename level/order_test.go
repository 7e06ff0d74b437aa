package level_test

import (
	"math"
	"slices"
	"testing"

	"retort/api"
	"retort/level"
)

// P3.3

func TestCheck(t *testing.T) {
	many := func(n int, with ...api.Order) []api.Order { return append(make([]api.Order, n), with...) }
	wrong := []api.Order{
		{Low: -1}, {High: -1}, {Low: 4}, {High: 4}, {Low: math.MaxInt}, {High: math.MaxInt}, {Low: math.MinInt}, {High: math.MinInt},
		{Add: 1001, High: 1}, {Add: -1001}, {Add: math.MaxInt}, {Add: math.MinInt},
	}
	for _, vars := range []int{-1, 17, 18, math.MinInt, math.MaxInt} {
		for _, orders := range [][]api.Order{nil, {{}}, wrong[:1], many(64), many(65), many(64, wrong[0]), {{Add: 1}}} {
			checkFails(t, vars, orders, api.ErrArg)
		}
	}
	for _, bad := range wrong {
		checkFails(t, 3, []api.Order{bad}, api.ErrArg)
		checkFails(t, 3, []api.Order{{Add: 1}, bad}, api.ErrArg)
		checkFails(t, 3, []api.Order{bad, {Add: 1}}, api.ErrArg)
		checkFails(t, 3, many(63, bad), api.ErrArg)
		checkFails(t, 3, many(64, bad), api.ErrFull)
		checkFails(t, 3, append([]api.Order{bad}, many(64)...), api.ErrFull)
	}
	checkFails(t, 3, many(65), api.ErrFull)
	checkFails(t, 0, many(65), api.ErrFull)
	checkFails(t, 16, many(1000), api.ErrFull)
	checkFails(t, 3, many(64, api.Order{Add: 1}), api.ErrFull)
	for _, orders := range [][]api.Order{nil, {}, many(64), {{Low: 3, Add: -1000, High: 3}}, {{Low: 0, Add: 1000, High: 3}}, {{Low: 3, Add: -1000, High: 0}}} {
		if e := level.Check(3, orders); e != api.OK {
			t.Errorf("%v: %d", orders, e)
		}
	}
	for _, vars := range []int{0, 16} {
		if e := level.Check(vars, []api.Order{{Low: vars, High: vars}}); e != api.OK {
			t.Errorf("over %d: %d", vars, e)
		}
		checkFails(t, vars, []api.Order{{Low: vars + 1}}, api.ErrArg)
		checkFails(t, vars, []api.Order{{High: vars + 1}}, api.ErrArg)
	}
}

// checkFails holds all calls to an error of Check.
func checkFails(t *testing.T, vars int, orders []api.Order, want api.Errno) {
	t.Helper()
	if e := level.Check(vars, orders); e != want {
		t.Errorf("Check of %d, %v: %d, not %d", vars, orders, e, want)
	}
	if vals, e := level.Least(vars, orders); e != want || len(vals) != 0 {
		t.Errorf("Least of %d, %v: %v, %d, not %d", vars, orders, vals, e, want)
	}
	for _, v := range []int{0, 1, vars} {
		if by, ok := level.Gap(vars, orders, v, v); by != 0 || ok {
			t.Errorf("Gap of %d, %v: %d", vars, orders, by)
		}
	}
	if level.Under(vars, orders, api.Level{{}}, api.Level{{}}) {
		t.Errorf("Under of %d, %v", vars, orders)
	}
}

// cycles are orders around a cycle, that add to so much.
func cycles(sum int) [][]api.Order {
	turned := chain(16, -1)
	slices.Reverse(turned)
	return [][]api.Order{
		{{Add: sum}},
		{{Low: 2, Add: sum, High: 2}},
		{{Low: 1, Add: sum + 1, High: 2}, {Low: 2, Add: -1, High: 1}},
		{{Low: 2, Add: -5, High: 1}, {Low: 1, Add: sum + 5, High: 2}},
		{{Low: 0, Add: sum + 7, High: 3}, {Low: 3, Add: -7, High: 0}},
		{{Low: 1, Add: 2, High: 9}, {Low: 4, Add: 4, High: 1}, {Low: 9, Add: sum - 6, High: 4}},
		append(chain(16, 60), api.Order{Low: 16, Add: sum - 900, High: 1}),
		append(chain(16, -60), api.Order{Low: 16, Add: sum + 900, High: 1}),
		append(turned, api.Order{Low: 16, Add: sum + 15, High: 1}),
	}
}

func TestCycles(t *testing.T) {
	for _, sum := range []int{0, -1, -2, -90} {
		for _, orders := range cycles(sum) {
			if e := level.Check(16, orders); e != api.OK {
				t.Errorf("%v: %d", orders, e)
			}
		}
	}
	for _, sum := range []int{1, 2, 90} {
		for _, orders := range cycles(sum) {
			checkFails(t, 16, orders, api.ErrCycle)
			checkFails(t, 16, append(chain(16, -1000), orders...), api.ErrCycle)
			checkFails(t, 16, append(slices.Clone(orders), chain(16, -1000)...), api.ErrCycle)
		}
	}
}

// Cycles through all variables and back, each way as steep as may be.
func TestSteepCycles(t *testing.T) {
	orders := chain(16, 1000)
	for v := 16; v > 1; v-- {
		orders = append(orders, api.Order{Low: v, Add: -1000, High: v - 1})
	}
	if by, ok := level.Gap(16, orders, 16, 1); by != -15000 || !ok {
		t.Errorf("%d, %v", by, ok)
	}
	for i := 15; i < len(orders); i++ {
		orders[i].Add = -999
		checkFails(t, 16, orders, api.ErrCycle)
		orders[i].Add = -1000
	}
	var all []api.Order
	for low := 1; low <= 8; low++ {
		for high := 1; high <= 8; high++ {
			all = append(all, api.Order{Low: low, Add: 1000, High: high})
		}
	}
	checkFails(t, 8, all, api.ErrCycle)
	checkFails(t, 16, all, api.ErrCycle)
}

// A variable that is bounded from above by 0.
func TestBoundedFromAbove(t *testing.T) {
	for _, c := range []struct {
		orders []api.Order
		e      api.Errno
	}{
		{[]api.Order{{Low: 1, Add: 0, High: 0}}, api.OK},
		{[]api.Order{{Low: 1, Add: -3, High: 0}}, api.OK},
		{[]api.Order{{Low: 1, Add: 1, High: 0}}, api.ErrCycle},
		{[]api.Order{{Low: 1, Add: -3, High: 0}, {Low: 0, Add: 3, High: 1}}, api.OK},
		{[]api.Order{{Low: 1, Add: -3, High: 0}, {Low: 0, Add: 4, High: 1}}, api.ErrCycle},
		{[]api.Order{{Low: 2, Add: 0, High: 0}, {Low: 1, Add: 1, High: 2}}, api.ErrCycle},
		{[]api.Order{{Low: 2, Add: -1, High: 0}, {Low: 1, Add: 1, High: 2}}, api.OK},
		{[]api.Order{{Low: 2, Add: -1, High: 0}, {Low: 1, Add: 1, High: 2}, {Low: 0, Add: 1, High: 1}}, api.ErrCycle},
		{[]api.Order{{Add: -1}}, api.OK}, {[]api.Order{{Add: 0}}, api.OK},
	} {
		if e := level.Check(2, c.orders); e != c.e {
			t.Errorf("%v: %d", c.orders, e)
		}
	}
}

func TestLeast(t *testing.T) {
	for _, c := range []struct {
		vars   int
		orders []api.Order
		want   []int
	}{
		{0, nil, nil}, {0, []api.Order{{}}, nil}, {3, nil, []int{0, 0, 0}}, {16, nil, make([]int, 16)},
		{2, []api.Order{{Low: 1, Add: 1, High: 2}}, []int{0, 1}}, {2, []api.Order{{Low: 2, Add: 1, High: 1}}, []int{1, 0}}, {3, []api.Order{{Low: 1, Add: 1, High: 2}}, []int{0, 1, 0}},
		{2, []api.Order{{Low: 1, Add: -5, High: 2}}, []int{0, 0}}, {2, []api.Order{{Add: 7, High: 1}, {Low: 1, Add: -5, High: 2}}, []int{7, 2}},
		{2, []api.Order{{Add: 7, High: 1}, {Add: 9, High: 1}, {Add: 8, High: 1}}, []int{9, 0}},
		{3, []api.Order{{Low: 2, Add: 1, High: 3}, {Low: 1, Add: 1, High: 2}, {Add: 1, High: 1}}, []int{1, 2, 3}},
		{3, []api.Order{{Low: 1, Add: 1, High: 2}, {Low: 2, Add: -1, High: 1}, {Add: 4, High: 2}}, []int{3, 4, 0}},
		{1, []api.Order{{Low: 1, Add: -1000, High: 1}, {Add: 1000, High: 1}}, []int{1000}},
		{1, []api.Order{{Low: 1, Add: -6, High: 0}, {Add: 6, High: 1}}, []int{6}},
		{16, chain(16, 1000), []int{0, 1000, 2000, 3000, 4000, 5000, 6000, 7000, 8000, 9000, 10000, 11000, 12000, 13000, 14000, 15000}},
	} {
		if vals, e := level.Least(c.vars, c.orders); e != api.OK || !slices.Equal(vals, c.want) {
			t.Errorf("%v: %v, %d", c.orders, vals, e)
		}
	}
}

// All values of two and three variables are tried: which meet the orders, which are least.
func TestByAllValues(t *testing.T) {
	d := dice(7)
	for vars := range 4 {
		all := allValues(vars, 14)
		for range 150 {
			orders := d.orders(vars, 4, 2)
			meet := slices.DeleteFunc(slices.Clone(all), func(vals []int) bool { return !level.Meets(vals, orders) })
			vals, e := level.Least(vars, orders)
			if len(meet) == 0 {
				checkFails(t, vars, orders, api.ErrCycle)
				continue
			}
			least := slices.Clone(meet[0])
			for _, met := range meet {
				for i := range met {
					least[i] = min(least[i], met[i])
				}
			}
			if e != api.OK || level.Check(vars, orders) != api.OK || !slices.Equal(vals, least) {
				t.Errorf("%v: %v, %d, not %v", orders, vals, e, least)
			}
			gapsByValues(t, vars, orders, meet)
		}
	}
}

// gapsByValues holds all gaps to those of the values that meet the orders. Ways of up to four orders that add at most 2 tell no more than 8; where there is no gap, greater values that meet them are further apart.
func gapsByValues(t *testing.T, vars int, orders []api.Order, meet [][]int) {
	t.Helper()
	for low := range vars + 1 {
		for high := range vars + 1 {
			apart := math.MaxInt
			for _, vals := range meet {
				apart = min(apart, worth(vals, high)-worth(vals, low))
			}
			want, there := apart, apart >= -8
			if !there {
				want = 0
			}
			if by, ok := level.Gap(vars, orders, low, high); by != want || ok != there {
				t.Errorf("of %d and %d by %v: %d, %v, not %d, %v", low, high, orders, by, ok, want, there)
			}
		}
	}
}

// Many variables, and Adds as great as may be.
func TestByClimbing(t *testing.T) {
	d, met := dice(3), 0
	for range 400 {
		vars := d.from(1, 16)
		orders := d.orders(vars, vars*3/2, 1000)
		vals, e := level.Least(vars, orders)
		want, ok := climb(vars, orders)
		if !ok {
			checkFails(t, vars, orders, api.ErrCycle)
			continue
		}
		met++
		if e != api.OK || !slices.Equal(vals, want) || !level.Meets(vals, orders) {
			t.Errorf("%v: %v, %d, not %v", orders, vals, e, want)
		}
		gapsByClimbing(t, vars, orders)
	}
	if met < 100 {
		t.Errorf("only %d lists of orders that some values meet", met)
	}
}

func gapsByClimbing(t *testing.T, vars int, orders []api.Order) {
	t.Helper()
	const beyond = 20000 // no way without a cycle adds to that
	for low := range vars + 1 {
		for high := range vars + 1 {
			by, ok := level.Gap(vars, orders, low, high)
			there := atMost(vars, orders, low, -beyond, high)
			if ok != there || ok && (!atMost(vars, orders, low, by, high) || atMost(vars, orders, low, by+1, high)) || !ok && by != 0 {
				t.Fatalf("of %d and %d by %v: %d, %v", low, high, orders, by, ok)
			}
		}
	}
}

// P3.4

func TestGap(t *testing.T) {
	one := []api.Order{{Low: 1, Add: 1, High: 2}}
	bounded := append(slices.Clone(one), api.Order{Low: 2, Add: -3, High: 0})
	for _, c := range []struct {
		orders          []api.Order
		low, high, want int
		ok              bool
	}{
		{one, 1, 2, 1, true}, {one, 0, 2, 1, true}, {one, 2, 1, 0, false}, {one, 2, 0, 0, false}, {one, 1, 0, 0, false}, {one, 0, 1, 0, true}, {one, 0, 3, 0, true}, {one, 1, 3, 0, false}, {one, 3, 1, 0, false},
		{one, 0, 0, 0, true}, {one, 1, 1, 0, true}, {one, 2, 2, 0, true}, {one, 3, 3, 0, true},
		{one, -1, 1, 0, false}, {one, 1, -1, 0, false}, {one, 4, 1, 0, false}, {one, 1, 4, 0, false}, {one, 0, 4, 0, false}, {one, -1, -1, 0, false}, {one, 4, 4, 0, false}, {one, 17, 17, 0, false}, {one, math.MaxInt, 1, 0, false}, {one, 1, math.MinInt, 0, false}, {one, math.MinInt, math.MinInt, 0, false},
		{bounded, 1, 0, -2, true}, {bounded, 2, 0, -3, true}, {bounded, 2, 1, -3, true}, {bounded, 1, 3, -2, true}, {bounded, 2, 3, -3, true}, {bounded, 3, 0, 0, false}, {bounded, 3, 2, 0, false}, {bounded, 1, 2, 1, true},
		{[]api.Order{{Low: 1, Add: -4, High: 1}}, 1, 1, 0, true}, {[]api.Order{{Low: 1, Add: -4, High: 2}}, 1, 2, -4, true}, {[]api.Order{{Low: 1, Add: -4, High: 2}}, 0, 2, 0, true},
		{[]api.Order{{Low: 1, Add: 3, High: 2}, {Low: 2, Add: -3, High: 1}}, 2, 1, -3, true},
		{[]api.Order{{Low: 1, Add: 1, High: 2}, {Low: 2, Add: 5, High: 3}}, 1, 3, 6, true}, {[]api.Order{{Low: 1, Add: 1, High: 2}, {Low: 2, Add: 5, High: 3}, {Low: 1, Add: 9, High: 3}}, 1, 3, 9, true}, {[]api.Order{{Low: 1, Add: 9, High: 3}, {Low: 1, Add: 1, High: 2}, {Low: 2, Add: 9, High: 3}}, 1, 3, 10, true},
		{[]api.Order{{Low: 3, Add: 2, High: 2}, {Low: 2, Add: 2, High: 1}}, 3, 1, 4, true},
		{[]api.Order{{Low: 1, Add: -1, High: 0}, {Low: 0, Add: 7, High: 2}}, 1, 2, 6, true},
	} {
		if by, ok := level.Gap(3, c.orders, c.low, c.high); by != c.want || ok != c.ok {
			t.Errorf("of %d and %d by %v: %d, %v", c.low, c.high, c.orders, by, ok)
		}
	}
}

// A gap may go through all variables, in whatever order they stand.
func TestGapThroughManyOrders(t *testing.T) {
	d := dice(11)
	for range 50 {
		names := make([]int, 16)
		for i := range names {
			names[i] = i + 1
			j := d.below(i + 1)
			names[i], names[j] = names[j], names[i]
		}
		var orders []api.Order
		sum := 0
		for i := range 15 {
			add := d.from(-1000, 1000)
			sum += add
			orders = append(orders, api.Order{Low: names[i], Add: add, High: names[i+1]})
		}
		if by, ok := level.Gap(16, orders, names[0], names[15]); by != sum || !ok {
			t.Errorf("%v: %d, %v, not %d", orders, by, ok, sum)
		}
		if _, ok := level.Gap(16, orders, names[15], names[0]); ok {
			t.Errorf("%v: the other way round", orders)
		}
	}
}

// P3.5

func TestUnder(t *testing.T) {
	one := []api.Order{{Low: 1, Add: 1, High: 2}}
	bounded := append(slices.Clone(one), api.Order{Low: 2, Add: -3, High: 0})
	for _, c := range []struct {
		orders []api.Order
		a, b   api.Level
		want   bool
	}{
		{one, api.Level{{Var: 1, Add: 3}}, api.Level{{Var: 2, Add: 2}}, true}, {one, api.Level{{Var: 1, Add: 4}}, api.Level{{Var: 2, Add: 2}}, false},
		{one, api.Level{{Var: 2}}, api.Level{{Var: 1, Add: 5}}, false}, {one, api.Level{{Var: 2}}, api.Level{{Var: 1, Add: 1000}}, false}, {one, api.Level{{Add: 1}}, api.Level{{Var: 2}}, true}, {one, api.Level{{Add: 2}}, api.Level{{Var: 2}}, false}, {one, api.Level{{Var: 1}}, api.Level{{Add: 1000}}, false},
		{one, api.Level{{Var: 1, Add: 5}}, api.Level{{Var: 1, Add: 5}}, true}, {one, api.Level{{Var: 1, Add: 5}}, api.Level{{Var: 1, Add: 6}}, true}, {one, api.Level{{Var: 1, Add: 6}}, api.Level{{Var: 1, Add: 5}}, false},
		{one, api.Level{{Add: 5}}, api.Level{{Add: 5}}, true}, {one, api.Level{{Add: 5}}, api.Level{{Add: 4}}, false}, {one, api.Level{{Add: 5}}, api.Level{{Add: 4}, {Var: 1, Add: 5}}, true}, {one, api.Level{{Add: 1000}}, api.Level{{Var: 3, Add: 1000}}, true},
		{one, api.Level{{Var: 1}, {Var: 3}}, api.Level{{Var: 2}, {Var: 3}}, true}, {one, api.Level{{Var: 1}, {Var: 3}}, api.Level{{Var: 2}}, false}, {one, api.Level{{Var: 3}}, api.Level{{Var: 2}, {Var: 3}}, true}, {one, api.Level{{Var: 1, Add: 2}, {Var: 2}}, api.Level{{Var: 1, Add: 1}, {Var: 2, Add: 1}}, true},
		{bounded, api.Level{{Var: 1}}, api.Level{{Add: 2}}, true}, {bounded, api.Level{{Var: 1}}, api.Level{{Add: 1}}, false}, {bounded, api.Level{{Var: 2}}, api.Level{{Add: 3}}, true}, {bounded, api.Level{{Var: 1}}, api.Level{{Var: 3, Add: 2}}, true}, {bounded, api.Level{{Var: 2, Add: 1}}, api.Level{{Var: 1, Add: 4}}, true}, {bounded, api.Level{{Var: 3}}, api.Level{{Add: 1000}}, false},
		{nil, api.Level{{}}, api.Level{{}}, true}, {nil, api.Level{{}}, api.Level{{Var: 1}}, true}, {nil, api.Level{{Var: 1}}, api.Level{{}}, false},
	} {
		if got := level.Under(3, c.orders, c.a, c.b); got != c.want {
			t.Errorf("%v and %v by %v: %v", c.a, c.b, c.orders, got)
		}
	}
}

func TestUnderOfWrongLevels(t *testing.T) {
	good := api.Level{{}, {Var: 1, Add: 1000}, {Var: 2, Add: 1000}, {Var: 3, Add: 1000}}
	for _, bad := range append(wrongLevels(), api.Level{{Var: 4}}, api.Level{{}, {Var: 4}}) {
		if level.Under(3, nil, bad, good) || level.Under(3, nil, good, bad) || level.Under(3, nil, bad, bad) {
			t.Errorf("of %v", bad)
		}
	}
	if !level.Under(4, nil, api.Level{{Var: 4}}, api.Level{{Var: 4}}) || !level.Under(3, nil, good, good) {
		t.Error("of right ones")
	}
}

func TestUnderByClimbing(t *testing.T) {
	d, held := dice(5), 0
	for range 3000 {
		vars := d.from(0, 6)
		orders, a, b := d.orders(vars, 8, 3), d.level(vars), d.level(vars)
		_, want := climb(vars, orders)
		for _, low := range a {
			some := false
			for _, high := range b {
				some = some || atMost(vars, orders, low.Var, low.Add-high.Add, high.Var)
			}
			want = want && some
		}
		if level.Under(vars, orders, a, b) != want {
			t.Fatalf("%v and %v by %v: not %v", a, b, orders, want)
		}
		if want {
			held++
		}
	}
	if held < 100 {
		t.Errorf("only %d levels under others", held)
	}
}

// A level is under another one just where it is at most that one by all values that meet the orders.
func TestUnderByAllValues(t *testing.T) {
	d, held := dice(9), 0
	all := allValues(3, 14)
	for range 400 {
		orders, a, b := d.orders(3, 5, 2), d.level(3), d.level(3)
		if level.Check(3, orders) != api.OK {
			continue
		}
		above := slices.ContainsFunc(all, func(vals []int) bool {
			return level.Meets(vals, orders) && level.Value(a, vals) > level.Value(b, vals)
		})
		if level.Under(3, orders, a, b) == above {
			t.Fatalf("%v and %v by %v: above is %v", a, b, orders, above)
		}
		if !above {
			held++
		}
	}
	if held < 20 {
		t.Errorf("only %d levels under others", held)
	}
}
