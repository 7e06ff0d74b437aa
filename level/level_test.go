package level_test

import (
	"math"
	"slices"
	"testing"

	"retort/api"
	"retort/level"
)

// P3.1

// five is a list of five atoms that would else be right.
func five() api.Level {
	return api.Level{{Var: 0}, {Var: 1}, {Var: 2}, {Var: 3}, {Var: 4}}
}

func TestRight(t *testing.T) {
	for _, c := range []struct {
		l    api.Level
		vars int
		want bool
	}{
		{api.Level{{}}, 0, true}, {api.Level{{}}, 16, true}, {api.Level{{}}, -1, false}, {api.Level{{}}, 17, false}, {api.Level{{}}, math.MinInt, false}, {api.Level{{}}, math.MaxInt, false},
		{nil, 0, false}, {api.Level{}, 3, false}, {nil, 16, false},
		{five()[:4], 4, true}, {five()[1:], 4, true}, {five(), 4, false}, {five(), 16, false}, {slices.Concat(five(), five()), 16, false},
		{api.Level{{Var: 1}}, 0, false}, {api.Level{{Var: 1}}, 1, true}, {api.Level{{Var: 2}}, 1, false}, {api.Level{{Var: 16}}, 16, true}, {api.Level{{Var: 17}}, 16, false}, {api.Level{{Var: 17}}, 17, false}, {api.Level{{Var: 16}}, 15, false},
		{api.Level{{Var: -1}}, 16, false}, {api.Level{{Var: math.MinInt}}, 16, false}, {api.Level{{Var: math.MaxInt}}, 16, false},
		{api.Level{{Var: 1}, {Var: 3}, {Var: 16}}, 16, true}, {api.Level{{Var: 1}, {Var: 3}, {Var: 16}}, 15, false}, {api.Level{{Var: 0}, {Var: 1}}, 1, true},
		{api.Level{{Var: 1}, {Var: 1}}, 16, false}, {api.Level{{Var: 1}, {Var: 1, Add: 1}}, 16, false}, {api.Level{{}, {}}, 16, false}, {api.Level{{Var: 2}, {Var: 1}}, 16, false}, {api.Level{{Var: 1}, {Var: 0}}, 16, false}, {api.Level{{Var: 1}, {Var: 3}, {Var: 2}}, 16, false}, {api.Level{{Var: 1}, {Var: math.MaxInt}, {Var: 2}}, 16, false}, {api.Level{{Var: 1}, {Var: -1}}, 16, false},
		{api.Level{{Var: 1, Add: -1}}, 16, false}, {api.Level{{Var: 1, Add: 0}}, 16, true}, {api.Level{{Var: 1, Add: 1000}}, 16, true}, {api.Level{{Var: 1, Add: 1001}}, 16, false}, {api.Level{{Add: 1000}}, 0, true}, {api.Level{{Add: 1001}}, 0, false},
		{api.Level{{}, {Var: 1, Add: -1}}, 16, false}, {api.Level{{Add: 1001}, {Var: 1}}, 16, false}, {api.Level{{Add: math.MinInt}}, 16, false}, {api.Level{{Add: math.MaxInt}}, 16, false},
	} {
		if got := level.Right(c.l, c.vars); got != c.want {
			t.Errorf("%v over %d: %v", c.l, c.vars, got)
		}
	}
}

// wrongLevels are levels that are not right over MaxVars, each by one thing.
func wrongLevels() []api.Level {
	return []api.Level{
		nil, {}, five(),
		{{Var: 17}}, {{Var: -1}}, {{Var: 2}, {Var: 2}}, {{Var: 2}, {Var: 1}}, {{}, {}},
		{{Add: -1}}, {{Add: 1001}}, {{Var: 1}, {Var: 2, Add: 1001}},
		{{Var: math.MaxInt}}, {{Var: math.MinInt}}, {{Add: math.MaxInt}}, {{Add: math.MinInt}},
	}
}

func TestMax(t *testing.T) {
	for _, c := range []struct{ a, b, want api.Level }{
		{api.Level{{Var: 1, Add: 2}, {Var: 3}}, api.Level{{Var: 1, Add: 1}, {Var: 2}}, api.Level{{Var: 1, Add: 2}, {Var: 2}, {Var: 3}}},
		{api.Level{{}}, api.Level{{}}, api.Level{{}}},
		{api.Level{{Add: 1000}}, api.Level{{}}, api.Level{{Add: 1000}}},
		{api.Level{{Add: 5}}, api.Level{{Var: 1}}, api.Level{{Add: 5}, {Var: 1}}},
		{api.Level{{Var: 16}}, api.Level{{Var: 1, Add: 1000}}, api.Level{{Var: 1, Add: 1000}, {Var: 16}}},
		{api.Level{{Var: 4}, {Var: 5}}, api.Level{{Var: 1}, {Var: 2}}, api.Level{{Var: 1}, {Var: 2}, {Var: 4}, {Var: 5}}},
		{api.Level{{Var: 1}, {Var: 3}}, api.Level{{Var: 2}, {Var: 4}}, api.Level{{Var: 1}, {Var: 2}, {Var: 3}, {Var: 4}}},
		{api.Level{{Var: 1, Add: 7}, {Var: 2, Add: 1}}, api.Level{{Var: 1, Add: 3}, {Var: 2, Add: 9}}, api.Level{{Var: 1, Add: 7}, {Var: 2, Add: 9}}},
		{five()[:4], five()[:4], five()[:4]},
		{five()[:4], five()[1:3], five()[:4]},
	} {
		for _, p := range [][2]api.Level{{c.a, c.b}, {c.b, c.a}} {
			if got, e := level.Max(p[0], p[1]); e != api.OK || !slices.Equal(got, c.want) {
				t.Errorf("of %v and %v: %v, %d", p[0], p[1], got, e)
			}
		}
	}
}

// Whatever the values, the greater of two levels has the greater of their values.
func TestMaxByValues(t *testing.T) {
	d := dice(1)
	for range 2000 {
		a, b := d.level(6), d.level(6)
		got, e := level.Max(a, b)
		if vars := union(a, b); e == api.ErrFull != (vars > api.MaxAtoms) || e == api.OK && (len(got) != vars || !level.Right(got, 6)) {
			t.Fatalf("of %v and %v: %v, %d", a, b, got, e)
		}
		if e == api.ErrFull && len(got) == 0 {
			continue
		}
		vals := []int{d.below(4), d.below(4), d.below(4), d.below(4), d.below(4), d.below(4)}
		if e != api.OK || level.Value(got, vals) != max(level.Value(a, vals), level.Value(b, vals)) {
			t.Fatalf("of %v and %v: %v, %d", a, b, got, e)
		}
	}
}

// union counts the variables that stand in either level.
func union(a, b api.Level) int {
	n := len(a)
	for _, atom := range b {
		if !slices.ContainsFunc(a, func(other api.Atom) bool { return other.Var == atom.Var }) {
			n++
		}
	}
	return n
}

func TestMaxOfWrongLevels(t *testing.T) {
	for _, bad := range wrongLevels() {
		for _, p := range [][2]api.Level{{bad, {{}}}, {{{}}, bad}, {bad, bad}, {bad, five()[1:]}, {five()[1:], bad}} {
			if got, e := level.Max(p[0], p[1]); e != api.ErrLevel || len(got) != 0 {
				t.Errorf("of %v and %v: %v, %d", p[0], p[1], got, e)
			}
		}
	}
}

func TestMaxOfTooMany(t *testing.T) {
	four := five()[1:]
	for _, l := range []api.Level{{{}}, {{Add: 1000}}, {{Var: 5}}, {{Var: 1}, {Var: 16}}, {{Var: 10}, {Var: 11}, {Var: 12}, {Var: 13}}} {
		for _, p := range [][2]api.Level{{four, l}, {l, four}} {
			if got, e := level.Max(p[0], p[1]); e != api.ErrFull || len(got) != 0 {
				t.Errorf("of %v and %v: %v, %d", p[0], p[1], got, e)
			}
		}
	}
}

func TestUp(t *testing.T) {
	for _, c := range []struct {
		a    api.Level
		by   int
		want api.Level
		e    api.Errno
	}{
		{api.Level{{Add: 999}}, 1, api.Level{{Add: 1000}}, api.OK},
		{api.Level{{Add: 999}}, 2, nil, api.ErrLarge},
		{api.Level{{}}, 0, api.Level{{}}, api.OK},
		{api.Level{{}}, 1000, api.Level{{Add: 1000}}, api.OK},
		{api.Level{{}}, 1001, nil, api.ErrLarge},
		{api.Level{{Add: 1000}}, 0, api.Level{{Add: 1000}}, api.OK},
		{api.Level{{Add: 1000}}, 1, nil, api.ErrLarge},
		{api.Level{{Add: 1}}, math.MaxInt, nil, api.ErrLarge},
		{api.Level{{}}, math.MaxInt, nil, api.ErrLarge},
		{api.Level{{Add: 1}, {Var: 3, Add: 5}, {Var: 16}}, 7, api.Level{{Add: 8}, {Var: 3, Add: 12}, {Var: 16, Add: 7}}, api.OK},
		{api.Level{{Add: 1}, {Var: 3, Add: 994}, {Var: 16}}, 7, nil, api.ErrLarge},
		{api.Level{{Add: 1}, {Var: 3}, {Var: 16, Add: 994}}, 7, nil, api.ErrLarge},
		{api.Level{{Add: 994}, {Var: 3}, {Var: 16}}, 7, nil, api.ErrLarge},
		{api.Level{{Add: 1}}, -1, nil, api.ErrArg},
		{api.Level{{Add: 1000}}, -1, nil, api.ErrArg},
		{api.Level{{Add: 1}}, math.MinInt, nil, api.ErrArg},
	} {
		if got, e := level.Up(c.a, c.by); e != c.e || !slices.Equal(got, c.want) {
			t.Errorf("%v by %d: %v, %d", c.a, c.by, got, e)
		}
	}
	for _, bad := range wrongLevels() {
		for _, by := range []int{0, 1, 1001, math.MaxInt, -1, math.MinInt} {
			if got, e := level.Up(bad, by); e != api.ErrLevel || len(got) != 0 {
				t.Errorf("%v by %d: %v, %d", bad, by, got, e)
			}
		}
	}
}

// P3.2

func TestValue(t *testing.T) {
	for _, c := range []struct {
		l    api.Level
		vals []int
		want int
	}{
		{api.Level{{Var: 1, Add: 2}, {Var: 9, Add: 1}}, []int{4}, 6},
		{api.Level{{Var: 1, Add: 2}, {Var: 9, Add: 7}}, []int{4}, 7},
		{nil, nil, 0}, {api.Level{}, []int{5}, 0}, {nil, []int{-5}, 0},
		{api.Level{{}}, []int{5}, 0}, {api.Level{{Add: 3}}, []int{5}, 3}, {api.Level{{Add: -3}}, []int{5}, -3},
		{api.Level{{Var: 1}}, []int{-3}, -3}, {api.Level{{Var: 1}, {Var: 2}}, []int{-3, -2}, -2}, {api.Level{{Var: 1}, {Var: 2}}, []int{-3}, 0}, {api.Level{{Var: 2}, {Var: 1}}, []int{-3, -2, 9}, -2},
		{api.Level{{Var: -1, Add: 2}}, []int{7, 8}, 2}, {api.Level{{Var: math.MinInt, Add: 2}}, []int{7, 8}, 2}, {api.Level{{Var: math.MaxInt, Add: 2}}, []int{7, 8}, 2},
		{api.Level{{Var: 2, Add: 2}}, []int{7, 8}, 10}, {api.Level{{Var: 3, Add: 2}}, []int{7, 8}, 2}, {api.Level{{Var: 0, Add: 2}}, []int{7, 8}, 2},
		{api.Level{{Var: 1, Add: 1}}, []int{math.MaxInt}, math.MinInt}, {api.Level{{Var: 1, Add: -1}}, []int{math.MinInt}, math.MaxInt}, {api.Level{{Var: 1, Add: math.MaxInt}}, []int{math.MaxInt}, -2},
		{api.Level{{Var: 1, Add: 1}, {Add: 5}}, []int{math.MaxInt}, 5}, {api.Level{{Add: 5}, {Var: 1, Add: 1}}, []int{math.MaxInt}, 5}, {api.Level{{Var: 1, Add: 1}, {Var: 1}}, []int{math.MaxInt}, math.MaxInt},
		{api.Level{{Add: 4}, {Add: 2}, {Add: 9}, {Add: 1}, {Add: 3}, {Add: 8}}, nil, 9},
	} {
		if got := level.Value(c.l, c.vals); got != c.want {
			t.Errorf("of %v by %v: %d", c.l, c.vals, got)
		}
	}
}

// A list of values may be longer than MaxVars.
func TestValueOfManyVariables(t *testing.T) {
	vals := make([]int, 40)
	for i := range vals {
		vals[i] = 100 + i
	}
	for v := 1; v <= 40; v++ {
		if got := level.Value(api.Level{{Var: v, Add: 1}}, vals); got != 100+v {
			t.Errorf("of the variable %d: %d", v, got)
		}
	}
}

func TestMeets(t *testing.T) {
	for _, c := range []struct {
		vals   []int
		orders []api.Order
		want   bool
	}{
		{nil, nil, true}, {[]int{}, []api.Order{}, true}, {[]int{0, 5, 0}, nil, true}, {[]int{-1}, nil, false}, {[]int{0, 5, -1}, nil, false}, {[]int{math.MinInt, 5}, nil, false},
		{[]int{0, 1}, []api.Order{{Low: 1, Add: 1, High: 2}}, true}, {[]int{0, 2}, []api.Order{{Low: 1, Add: 1, High: 2}}, true}, {[]int{0, 0}, []api.Order{{Low: 1, Add: 1, High: 2}}, false}, {[]int{-1, 1}, []api.Order{{Low: 1, Add: 1, High: 2}}, false},
		{[]int{5, 3}, []api.Order{{Low: 1, Add: -2, High: 2}}, true}, {[]int{5, 2}, []api.Order{{Low: 1, Add: -2, High: 2}}, false},
		{[]int{0, 1, 0}, []api.Order{{Low: 1, Add: 1, High: 2}, {Low: 2, Add: 0, High: 3}}, false}, {[]int{0, 1, 1}, []api.Order{{Low: 1, Add: 1, High: 2}, {Low: 2, Add: 0, High: 3}}, true}, {[]int{0, 0, 1}, []api.Order{{Low: 1, Add: 1, High: 2}, {Low: 2, Add: 0, High: 3}}, false},
		{[]int{3}, []api.Order{{Low: 1, Add: 1, High: 1}}, false}, {[]int{3}, []api.Order{{Low: 1, Add: 0, High: 1}}, true}, {[]int{3}, []api.Order{{Low: 1, Add: -1, High: 1}}, true},
		{[]int{3}, []api.Order{{Low: 1, Add: -3, High: 0}}, true}, {[]int{4}, []api.Order{{Low: 1, Add: -3, High: 0}}, false}, {[]int{3}, []api.Order{{Low: 0, Add: 3, High: 1}}, true}, {[]int{2}, []api.Order{{Low: 0, Add: 3, High: 1}}, false},
		{nil, []api.Order{{Add: 0}}, true}, {nil, []api.Order{{Add: 1}}, false}, {nil, []api.Order{{Add: -1}}, true},
		{[]int{3}, []api.Order{{Low: -1, Add: 3, High: 1}}, true}, {[]int{3}, []api.Order{{Low: -1, Add: 4, High: 1}}, false}, {[]int{3}, []api.Order{{Low: 1, Add: -3, High: -1}}, true}, {[]int{3}, []api.Order{{Low: 1, Add: -2, High: -1}}, false},
		{[]int{3}, []api.Order{{Low: 2, Add: 3, High: 1}}, true}, {[]int{3}, []api.Order{{Low: 2, Add: 4, High: 1}}, false}, {[]int{3}, []api.Order{{Low: 1, Add: -3, High: 2}}, true}, {[]int{3}, []api.Order{{Low: 1, Add: -2, High: math.MaxInt}}, false}, {[]int{3}, []api.Order{{Low: math.MinInt, Add: 4, High: math.MinInt}}, false},
		{[]int{math.MaxInt, 0}, []api.Order{{Low: 1, Add: 1, High: 2}}, true}, {[]int{math.MaxInt, 0}, []api.Order{{Low: 1, Add: 0, High: 2}}, false}, {[]int{0, 1}, []api.Order{{Low: 2, Add: math.MaxInt, High: 1}}, true}, {[]int{0, 1}, []api.Order{{Low: 1, Add: math.MaxInt, High: 2}}, false}, {[]int{5}, []api.Order{{Low: 1, Add: math.MinInt, High: 0}}, true},
	} {
		if got := level.Meets(c.vals, c.orders); got != c.want {
			t.Errorf("%v and %v: %v", c.vals, c.orders, got)
		}
	}
}

// There may be more values than MaxVars, and more orders than MaxOrders.
func TestMeetsOfMany(t *testing.T) {
	orders, vals := chain(200, 1), make([]int, 200)
	for i := range vals {
		vals[i] = i
	}
	if !level.Meets(vals, orders) {
		t.Error("values that rise by one")
	}
	for i := range 199 {
		vals[i]++
		if level.Meets(vals, orders) {
			t.Errorf("with the value %d too great", i)
		}
		vals[i]--
	}
}
