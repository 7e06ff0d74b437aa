package book

import (
	"retort/api"
	"retort/octet"
)

// mostRead is the greatest number that is read of those that are no kinds and stand in no row: counts, variables, entries.
const mostRead = 255

// Encode answers a program's bytes: Right's error of its book; Fits' error of Main, then of Type; ErrLarge, if they are too many.
func Encode(p api.Program) ([]byte, api.Errno) {
	if e := programFault(p); e != api.OK {
		return nil, e
	}
	var w writer
	w.program(p)
	if w.over() {
		return nil, api.ErrLarge
	}
	return w.bytes, api.OK
}

// Decode answers the program of bytes: ErrLarge, if they are too many; the reader's error; ErrForm, if bytes are left; the error of what was read.
func Decode(b []byte) (api.Program, api.Errno) {
	if len(b) > api.MaxBytes {
		return api.Program{}, api.ErrLarge
	}
	r := reader{octet.New(b)}
	p := r.program()
	switch {
	case r.Err() != api.OK:
		return api.Program{}, r.Err()
	case r.Left() > 0:
		return api.Program{}, api.ErrForm
	}
	if e := programFault(p); e != api.OK {
		return api.Program{}, e
	}
	return p, api.OK
}

// programFault answers what is wrong with a program: with its book, its Main, or its Type.
func programFault(p api.Program) api.Errno {
	s, e := look(p.Book)
	if e != api.OK {
		return e
	}
	return firstFault([]api.Term{p.Main, p.Type}, s.closedFault)
}

// writer puts the parts of a right program behind one another; nothing in these is refused.
type writer struct{ bytes []byte }

// over tells whether there are too many bytes.
func (w *writer) over() bool { return len(w.bytes) > api.MaxBytes }

func (w *writer) nums(list ...int) {
	form, _ := octet.Put(nil, list...)
	w.bytes = append(w.bytes, form...)
}

// row leaves out what cannot matter any more: a book's rows can be thousands of times what bytes may be.
func (w *writer) row(t api.Term) {
	if w.over() {
		return
	}
	form, _ := octet.Row(nil, t)
	w.bytes = append(w.bytes, form...)
}

func (w *writer) program(p api.Program) {
	w.book(p.Book)
	w.row(p.Main)
	w.row(p.Type)
}

func (w *writer) book(b api.Book) {
	w.nums(b.Vars)
	writeAll(w, b.Orders, w.order)
	writeAll(w, b.Entries, w.entry)
	w.nums(b.Nat + 1)
	writeAll(w, b.Prims, w.prim)
}

func (w *writer) order(o api.Order) {
	w.nums(o.Low)
	w.bytes = append(w.bytes, octet.Signed(nil, o.Add)...)
	w.nums(o.High)
}

func (w *writer) entry(x api.Entry) {
	w.nums(x.Kind)
	if x.Kind == api.Def {
		w.row(x.Type)
		w.row(x.Body)
		return
	}
	w.row(x.Sort)
	writeAll(w, x.Params, w.row)
	writeAll(w, x.Indices, w.row)
	writeAll(w, x.Ctors, w.ctor)
}

func (w *writer) ctor(c api.Ctor) {
	writeAll(w, c.Args, w.row)
	writeAll(w, c.Out, w.row)
}

func (w *writer) prim(p api.Prim) { w.nums(p.Entry, p.Id) }

// writeAll writes how many things a list has, then each of them.
func writeAll[T any](w *writer, list []T, write func(T)) {
	w.nums(len(list))
	for _, thing := range list {
		write(thing)
	}
}

// reader reads the parts of a program; numbers, rows and the first error are those of the reader in it. Behind an error every count is 0: what is read then is short, and thrown away.
type reader struct{ *octet.Reader }

func (r reader) program() api.Program {
	return api.Program{Book: r.book(), Main: r.Row(), Type: r.Row()}
}

func (r reader) book() api.Book {
	return api.Book{
		Vars:    r.Num(mostRead),
		Orders:  readAll(r, r.order),
		Entries: readAll(r, r.entry),
		Nat:     r.Num(mostRead) - 1,
		Prims:   readAll(r, r.prim),
	}
}

func (r reader) order() api.Order {
	return api.Order{Low: r.Num(mostRead), Add: r.Signed(), High: r.Num(mostRead)}
}

func (r reader) entry() api.Entry {
	switch kind := r.Num(api.Def); kind {
	case api.Family:
		return api.Entry{Kind: kind, Sort: r.Row(), Params: readAll(r, r.Row), Indices: readAll(r, r.Row), Ctors: readAll(r, r.ctor)}
	case api.Def:
		return api.Entry{Kind: kind, Type: r.Row(), Body: r.Row()}
	}
	r.Num(-1) // there is no such number: the reading ends with ErrForm
	return api.Entry{}
}

func (r reader) ctor() api.Ctor {
	return api.Ctor{Args: readAll(r, r.Row), Out: readAll(r, r.Row)}
}

func (r reader) prim() api.Prim {
	return api.Prim{Entry: r.Num(mostRead), Id: r.Num(mostRead)}
}

// readAll reads how many things a list has, then each of them.
func readAll[T any](r reader, read func() T) []T {
	var list []T
	for range r.Num(mostRead) {
		list = append(list, read())
	}
	return list
}
