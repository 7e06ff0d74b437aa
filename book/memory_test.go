package book_test

import (
	"bytes"
	"math"
	"slices"
	"testing"

	"retort/api"
	"retort/book"
)

// P5.7

// held answers a list in other memory, with junk behind its length.
func held[T any](list []T, each func(T) T, junk T) []T {
	out := make([]T, 0, len(list)+2)
	for _, x := range list {
		out = append(out, each(x))
	}
	return append(out, junk, junk)[:len(list)]
}

func heldRow(t api.Term) api.Term {
	return held(t, func(n api.Node) api.Node { return n }, app)
}

func heldRows(list []api.Term) []api.Term { return held(list, heldRow, api.Term{ind(50)}) }

func heldEntry(x api.Entry) api.Entry {
	x.Sort, x.Type, x.Body = heldRow(x.Sort), heldRow(x.Type), heldRow(x.Body)
	x.Params, x.Indices = heldRows(x.Params), heldRows(x.Indices)
	x.Ctors = held(x.Ctors, func(c api.Ctor) api.Ctor { return api.Ctor{Args: heldRows(c.Args), Out: heldRows(c.Out)} }, api.Ctor{Args: make([]api.Term, 20)})
	return x
}

func heldProgram(p api.Program) api.Program {
	b := &p.Book
	b.Orders = held(b.Orders, func(o api.Order) api.Order { return o }, api.Order{Low: 99})
	b.Entries = held(b.Entries, heldEntry, api.Entry{Kind: 9, Body: api.Term{app}})
	b.Prims = held(b.Prims, func(p api.Prim) api.Prim { return p }, api.Prim{Entry: 2, Id: 1})
	p.Main, p.Type = heldRow(p.Main), heldRow(p.Type)
	return p
}

// grown answers a program whose lists have all their memory as elements: so what lies behind them can be looked at.
func grown(p api.Program) api.Program {
	whole := func(t api.Term) api.Term { return t[:cap(t)] }
	rows := func(list []api.Term) []api.Term {
		out := slices.Clone(list[:cap(list)])
		for i := range out {
			out[i] = whole(out[i])
		}
		return out
	}
	b := &p.Book
	b.Orders, b.Prims = b.Orders[:cap(b.Orders)], b.Prims[:cap(b.Prims)]
	b.Entries = slices.Clone(b.Entries[:cap(b.Entries)])
	for e := range b.Entries {
		x := &b.Entries[e]
		x.Sort, x.Type, x.Body, x.Params, x.Indices = whole(x.Sort), whole(x.Type), whole(x.Body), rows(x.Params), rows(x.Indices)
		x.Ctors = slices.Clone(x.Ctors[:cap(x.Ctors)])
		for k, c := range x.Ctors {
			x.Ctors[k] = api.Ctor{Args: rows(c.Args), Out: rows(c.Out)}
		}
	}
	p.Main, p.Type = whole(p.Main), whole(p.Type)
	return p
}

// asked is what the calls are asked with.
type asked struct {
	p      api.Program
	params []api.Term
	e, k   int
}

// result is what a call answers: a row, bytes or a program, and an error.
type result struct {
	row  api.Term
	code []byte
	p    api.Program
	e    api.Errno
}

func (r result) same(s result) bool {
	return slices.Equal(r.row, s.row) && bytes.Equal(r.code, s.code) && same(r.p, s.p) && r.e == s.e
}

// calls are the package's calls.
func calls() map[string]func(a asked) result {
	return map[string]func(a asked) result{
		"Right":   func(a asked) result { return result{e: book.Right(a.p.Book)} },
		"Fits":    func(a asked) result { return result{e: book.Fits(a.p.Book, 1, a.p.Main)} },
		"IndType": func(a asked) result { row, e := book.IndType(a.p.Book, a.e); return result{row: row, e: e} },
		"CtorType": func(a asked) result {
			row, e := book.CtorType(a.p.Book, a.e, a.k)
			return result{row: row, e: e}
		},
		"Branch": func(a asked) result {
			row, e := book.Branch(a.p.Book, a.e, a.k, a.params, a.p.Main)
			return result{row: row, e: e}
		},
		"Encode": func(a asked) result { code, e := book.Encode(a.p); return result{code: code, e: e} },
		"Decode": func(a asked) result {
			code, _ := book.Encode(a.p)
			code = held(code, func(b byte) byte { return b }, 7)
			was := slices.Clone(code[:cap(code)])
			p, e := book.Decode(code)
			if !bytes.Equal(code[:cap(code)], was) {
				e = -1
			}
			for i := range code[:cap(code)] {
				code[:cap(code)][i] = 99
			}
			return result{p: p, e: e}
		},
	}
}

// askings makes what the calls are asked with: programs with one of their constructors.
func askings(look func(a asked)) {
	d := dice(9)
	for i := range 300 {
		p := d.program()
		if i%5 == 0 {
			p = clone(p)
			d.turn(&p)
		}
		for e, x := range p.Book.Entries {
			for k := range x.Ctors {
				a := asked{p: p, e: e, k: k}
				for range x.Params {
					a.params = append(a.params, d.term(place{p.Book, len(p.Book.Entries), false}, 3, 2))
				}
				look(a)
			}
		}
	}
}

// What is handed in stays as it was, and what lies behind it is not read.
func TestWhatIsHandedInStays(t *testing.T) {
	askings(func(a asked) {
		for name, call := range calls() {
			given := asked{heldProgram(a.p), heldRows(a.params), a.e, a.k}
			was, wasParams := clone(grown(given.p)), grown(api.Program{Book: api.Book{Entries: []api.Entry{{Params: given.params}}}})
			wasParams = clone(wasParams)
			got := call(given)
			if !got.same(call(asked{clone(a.p), clone(api.Program{Book: api.Book{Entries: []api.Entry{{Params: a.params}}}}).Book.Entries[0].Params, a.e, a.k})) {
				t.Errorf("%s: what lies behind is read", name)
			}
			spoil(got)
			params := grown(api.Program{Book: api.Book{Entries: []api.Entry{{Params: given.params}}}})
			if !same(grown(given.p), was) || !same(params, wasParams) {
				t.Errorf("%s: what is handed in is changed", name)
			}
		}
	})
}

// spoil writes over all the memory of an answer, and grows it.
func spoil(r result) {
	spoilRow(&r.row)
	for i := range r.code[:cap(r.code)] {
		r.code[:cap(r.code)][i] = 99
	}
	for _, list := range listsOf(&r.p) {
		list()
	}
}

func spoilRow(t *api.Term) {
	for i := range (*t)[:cap(*t)] {
		(*t)[:cap(*t)][i] = api.Node{Op: 77, A: 77, B: 77}
	}
	_ = append(*t, ind(1), ind(2))
}

// listsOf answers for each list of a program what writes over all its memory; the rows come ahead of the lists that hold them.
func listsOf(p *api.Program) []func() {
	var list []func()
	for _, t := range rowsOf(p) {
		list = append(list, func() { spoilRow(t) })
	}
	rows := func(rows []api.Term) {
		list = append(list, func() { fill(rows, api.Term{ind(77)}) })
	}
	for _, x := range p.Book.Entries {
		rows(x.Params)
		rows(x.Indices)
		for _, c := range x.Ctors {
			rows(c.Args)
			rows(c.Out)
		}
		list = append(list, func() { fill(x.Ctors, api.Ctor{Args: []api.Term{{}}}) })
	}
	return append(list, func() { fill(p.Book.Orders, api.Order{Low: 77}) }, func() { fill(p.Book.Prims, api.Prim{Entry: 77}) }, func() { fill(p.Book.Entries, api.Entry{Kind: 77}) })
}

// fill writes over all memory of a list.
func fill[T any](list []T, x T) {
	for i := range list[:cap(list)] {
		list[:cap(list)][i] = x
	}
}

// What is answered is new: other answers stay as they were.
func TestWhatIsAnsweredIsNew(t *testing.T) {
	askings(func(a asked) {
		for name, call := range calls() {
			given := asked{heldProgram(a.p), heldRows(a.params), a.e, a.k}
			first := call(given)
			was := result{slices.Clone(first.row), slices.Clone(first.code), clone(first.p), first.e}
			spoil(call(given))
			if !first.same(was) || !call(given).same(was) {
				t.Errorf("%s: an answer is kept", name)
			}
			for _, list := range listsOf(&given.p) {
				list()
			}
			for i := range given.params {
				spoilRow(&given.params[i])
			}
			if !first.same(was) {
				t.Errorf("%s: an answer shares memory with what was handed in", name)
			}
		}
	})
}

// places adds where the elements of a list stand, and of what lies behind it.
func places[T any](seen map[any]int, list []T) {
	for i := range list[:cap(list)] {
		seen[&list[:cap(list)][i]]++
	}
}

// The lists of one answer share nothing.
func TestListsOfAnAnswerShareNothing(t *testing.T) {
	d := dice(10)
	for i := range 500 {
		p := d.program()
		if i == 0 {
			p = basic()
		}
		code, _ := book.Encode(p)
		p, _ = book.Decode(code)
		seen := map[any]int{}
		for _, row := range rowsOf(&p) {
			places(seen, *row)
		}
		places(seen, p.Book.Orders)
		places(seen, p.Book.Entries)
		places(seen, p.Book.Prims)
		for _, x := range p.Book.Entries {
			places(seen, x.Params)
			places(seen, x.Indices)
			places(seen, x.Ctors)
			for _, c := range x.Ctors {
				places(seen, c.Args)
				places(seen, c.Out)
			}
		}
		for at, times := range seen {
			if times > 1 {
				t.Fatalf("one place of %T in %d lists", at, times)
			}
		}
	}
}

// One row in several places, and one memory for several lists, are as many rows and lists.
func TestOneRowSeveralTimes(t *testing.T) {
	rows := []api.Term{set, set, set}
	f := api.Entry{Kind: api.Family, Sort: set, Params: rows[:2], Indices: rows[:1], Ctors: []api.Ctor{{Args: rows, Out: rows[2:]}, {Args: rows[:0], Out: rows[1:2]}}}
	p := api.Program{Book: api.Book{Entries: []api.Entry{f, f, {Kind: api.Def, Type: set, Body: set}}, Nat: -1}, Main: set, Type: set}
	other := clone(p)
	encodes(t, "one row", p, api.OK)
	for e := range 2 {
		for k := range 2 {
			row, fault := book.CtorType(p.Book, e, k)
			want, _ := book.CtorType(other.Book, e, k)
			answers(t, "CtorType", row, fault, want, api.OK)
			row, fault = book.Branch(p.Book, e, k, rows[:2], set)
			want, _ = book.Branch(other.Book, e, k, other.Book.Entries[0].Params, other.Main)
			answers(t, "Branch", row, fault, want, api.OK)
		}
	}
	if !same(p, other) || !slices.Equal(set, api.Term{sort(1, 1), atom(0, 0)}) {
		t.Error("what is handed in is changed")
	}
}

// P1

// Whatever is handed in, each call ends, and has nothing beside an error.
func TestAnyArgument(t *testing.T) {
	d := dice(11)
	wildRow := func() api.Term {
		var row api.Term
		for range d.below(4) {
			row = append(row, d.wildNode())
		}
		return row
	}
	for range 20000 {
		p := clone(d.program())
		for range d.below(3) {
			d.turn(&p)
		}
		if d.below(3) == 0 {
			p.Book.Entries = append(p.Book.Entries, api.Entry{Kind: d.wild(), Sort: wildRow(), Params: []api.Term{wildRow()}, Ctors: []api.Ctor{{Args: []api.Term{wildRow()}, Out: []api.Term{wildRow()}}}, Type: wildRow()})
			p.Book.Orders = append(p.Book.Orders, api.Order{Low: d.wild(), Add: d.wild(), High: d.wild()})
			p.Book.Prims = append(p.Book.Prims, api.Prim{Entry: d.wild(), Id: d.wild()})
		}
		a := asked{p, []api.Term{wildRow(), wildRow()}[:d.below(3)], d.wild(), d.wild()}
		for name, call := range calls() {
			if r := call(a); r.e != api.OK && !r.same(result{e: r.e}) || r.e == -1 {
				t.Fatalf("%s: %v", name, r)
			}
		}
		book.Fits(p.Book, d.wild(), wildRow())
	}
	var text []byte
	for range 20000 {
		text = text[:0]
		for range d.below(40) {
			text = append(text, byte(d.below(4)*d.below(4)*d.below(30)))
		}
		if p, e := book.Decode(text); e != api.OK && !same(p, api.Program{}) {
			t.Fatalf("%v: %v, %d", text, p, e)
		}
	}
	if row, e := book.IndType(base(), math.MaxInt); e != api.ErrArg || len(row) != 0 {
		t.Errorf("%v, %d", row, e)
	}
}
