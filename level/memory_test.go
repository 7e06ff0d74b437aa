package level_test

import (
	"math"
	"slices"
	"testing"

	"retort/api"
	"retort/level"
)

// P3.6

// with answers a list with others behind its length in its memory.
func with[T any](list []T, behind ...T) []T {
	return slices.Concat(list, behind)[:len(list)]
}

// whole answers a list with all that its memory has room for.
func whole[T any](list []T) []T { return list[:cap(list)] }

// spoil writes over all the memory of a list, and grows it.
func spoil[T any](list []T, with T) {
	for i := range whole(list) {
		whole(list)[i] = with
	}
	_ = append(list, with, with, with)
}

// given is what calls are handed in.
type given struct {
	a, b   api.Level
	vals   []int
	orders []api.Order
}

// made answers lists with others behind their length, which would change each answer.
func made(a, b api.Level, vals []int, orders []api.Order) given {
	return given{
		with(a, api.Atom{Var: 9, Add: 900}), with(b, api.Atom{Var: 10, Add: 900}),
		with(vals, -5, 50), with(orders, api.Order{Low: 1, Add: 7, High: 3}, api.Order{Add: 1}),
	}
}

// copied answers the same in other memory, with what lies behind the lists.
func (g given) copied() given {
	return given{slices.Clone(whole(g.a)), slices.Clone(whole(g.b)), slices.Clone(whole(g.vals)), slices.Clone(whole(g.orders))}
}

func (g given) same(h given) bool {
	return slices.Equal(whole(g.a), h.a) && slices.Equal(whole(g.b), h.b) && slices.Equal(whole(g.vals), h.vals) && slices.Equal(whole(g.orders), h.orders)
}

func (g given) spoil() {
	spoil(g.a, api.Atom{Var: 7, Add: 7})
	spoil(g.b, api.Atom{Var: 7, Add: 7})
	spoil(g.vals, 7)
	spoil(g.orders, api.Order{Low: 7, Add: 7, High: 7})
}

// answers tells all that the calls answer, in order.
type answers struct {
	max, up api.Level
	least   []int
	numbers [11]int
}

func ask(g given) answers {
	var got answers
	var e [4]api.Errno
	got.max, e[0] = level.Max(g.a, g.b)
	got.up, e[1] = level.Up(g.a, 3)
	got.least, e[2] = level.Least(3, g.orders)
	e[3] = level.Check(3, g.orders)
	by, ok := level.Gap(3, g.orders, 1, 2)
	got.numbers = [11]int{int(e[0]), int(e[1]), int(e[2]), int(e[3]), by, level.Value(g.a, g.vals), one(ok), one(level.Right(g.a, 16)), one(level.Meets(g.vals, g.orders)), one(level.Under(3, g.orders, g.a, g.b)), one(level.Under(3, g.orders, g.b, g.a))}
	return got
}

func one(b bool) int {
	if b {
		return 1
	}
	return 0
}

func (a answers) same(b answers) bool {
	return slices.Equal(a.max, b.max) && slices.Equal(a.up, b.up) && slices.Equal(a.least, b.least) && a.numbers == b.numbers
}

// What is handed in stays, what lies behind it is not read; what is answered is its own.
func TestMemory(t *testing.T) {
	d := dice(13)
	for range 300 {
		a, b, vals, orders := d.level(3), d.level(3), []int{d.below(5), d.below(5)}, d.orders(3, 4, 2)
		g := made(a, b, vals, orders)
		was := g.copied()
		first := ask(g)
		if !g.same(was) {
			t.Fatalf("%v: what is handed in is changed", g)
		}
		if !first.same(ask(given{slices.Clip(a), slices.Clip(b), slices.Clip(vals), slices.Clip(orders)})) {
			t.Fatalf("%v: what lies behind is read", g)
		}
		kept := first
		kept.max, kept.up, kept.least = slices.Clone(first.max), slices.Clone(first.up), slices.Clone(first.least)
		second := ask(g)
		spoil(second.max, api.Atom{Var: 8, Add: 8})
		spoil(second.up, api.Atom{Var: 8, Add: 8})
		spoil(second.least, 8)
		if !g.same(was) || !first.same(kept) || !ask(g).same(kept) {
			t.Fatalf("%v: what is answered is not new", g)
		}
		g.spoil()
		if !first.same(kept) {
			t.Fatalf("%v: what is answered is the memory handed in", was)
		}
	}
}

// Levels that are handed in twice, or are one another's parts.
func TestSharedLevels(t *testing.T) {
	l := api.Level{{Add: 1}, {Var: 1}, {Var: 2}, {Var: 3}}
	was := slices.Clone(l)
	for _, p := range [][2]api.Level{{l, l}, {l[:2], l[1:]}, {l[1:], l[:2]}, {l[:1], l}, {l, l[3:]}, {l[:2], l[2:]}} {
		got, e := level.Max(p[0], p[1])
		if e != api.OK || !slices.Equal(got, was) {
			t.Errorf("%v and %v: %v, %d", p[0], p[1], got, e)
		}
		spoil(got, api.Atom{Var: 8, Add: 8})
		if !slices.Equal(l, was) {
			t.Fatalf("%v and %v are changed", p[0], p[1])
		}
	}
}

// P1

// Whatever is handed in: each call ends, and has nothing beside an error.
func TestAnyArgument(t *testing.T) {
	d := dice(17)
	for range 20000 {
		a, b, orders := d.wildLevel(), d.wildLevel(), d.wildOrders()
		vars := d.wild()
		if l, e := level.Max(a, b); e != api.OK && len(l) != 0 {
			t.Fatalf("Max of %v and %v: %v", a, b, l)
		}
		if l, e := level.Up(a, d.wild()); e != api.OK && len(l) != 0 {
			t.Fatalf("Up of %v: %v", a, l)
		}
		vals, e := level.Least(vars, orders)
		if e != level.Check(vars, orders) || e != api.OK && len(vals) != 0 || e == api.OK && (len(vals) != vars || !level.Meets(vals, orders)) {
			t.Fatalf("Least of %d and %v: %v, %d", vars, orders, vals, e)
		}
		by, ok := level.Gap(vars, orders, d.wild(), d.wild())
		if e != api.OK && ok || !ok && by != 0 {
			t.Fatalf("Gap of %d and %v: %d, %v", vars, orders, by, ok)
		}
		if level.Under(vars, orders, a, b) && (e != api.OK || !level.Right(a, vars) || !level.Right(b, vars)) {
			t.Fatalf("Under of %d, %v, %v and %v", vars, orders, a, b)
		}
		level.Value(a, []int{d.wild(), d.wild(), math.MaxInt})
		level.Meets([]int{d.wild(), d.wild()}, orders)
	}
}
