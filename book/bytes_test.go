package book_test

import (
	"bytes"
	"math"
	"slices"
	"testing"

	"retort/api"
	"retort/book"
	"retort/octet"
)

// form answers layer 2's form of numbers.
func form(list ...int) []byte {
	var out []byte
	for _, n := range list {
		for ; n >= 128; n /= 128 {
			out = append(out, byte(n%128+128))
		}
		out = append(out, byte(n))
	}
	return out
}

// rowForm answers a row's form.
func rowForm(t api.Term) []byte {
	out := form(len(t))
	for _, n := range t {
		out = append(out, form(n.Op, n.A, n.B)...)
	}
	return out
}

func rowForms(list []api.Term) []byte {
	out := form(len(list))
	for _, t := range list {
		out = append(out, rowForm(t)...)
	}
	return out
}

// bytesOf answers a program's bytes by the chapter's list, whether it is right or not; an entry of no kind ends with it.
func bytesOf(p api.Program) []byte {
	b := p.Book
	out := form(b.Vars, len(b.Orders))
	for _, o := range b.Orders {
		folded := 2 * o.Add
		if o.Add < 0 {
			folded = -2*o.Add - 1
		}
		out = append(out, form(o.Low, folded, o.High)...)
	}
	out = append(out, form(len(b.Entries))...)
	for _, x := range b.Entries {
		out = append(out, form(x.Kind)...)
		switch x.Kind {
		case 1:
			out = slices.Concat(out, rowForm(x.Sort), rowForms(x.Params), rowForms(x.Indices), form(len(x.Ctors)))
			for _, c := range x.Ctors {
				out = slices.Concat(out, rowForms(c.Args), rowForms(c.Out))
			}
		case 2:
			out = slices.Concat(out, rowForm(x.Type), rowForm(x.Body))
		}
	}
	out = append(out, form(b.Nat+1, len(b.Prims))...)
	for _, p := range b.Prims {
		out = append(out, form(p.Entry, p.Id)...)
	}
	return slices.Concat(out, rowForm(p.Main), rowForm(p.Type))
}

// reading reads one number after the other, and gives up by layer 2's error.
type reading struct{ left []byte }

func (r *reading) number(read func(one *octet.Reader) int) int {
	one := octet.New(r.left[:min(len(r.left), 12)])
	n := read(one)
	if one.Err() != api.OK {
		panic(one.Err())
	}
	r.left = r.left[min(len(r.left), 12)-one.Left():]
	return n
}

func (r *reading) num(most int) int {
	return r.number(func(one *octet.Reader) int { return one.Num(most) })
}

func (r *reading) row() api.Term {
	var t api.Term
	for range r.num(4096) {
		n := api.Node{Op: r.num(255)}
		n.A = r.num(1 << 20)
		n.B = r.num(1 << 20)
		t = append(t, n)
	}
	return t
}

func (r *reading) rows() []api.Term {
	var list []api.Term
	for range r.num(255) {
		list = append(list, r.row())
	}
	return list
}

func (r *reading) program() api.Program {
	var p api.Program
	b := &p.Book
	b.Vars = r.num(255)
	for range r.num(255) {
		o := api.Order{Low: r.num(255)}
		o.Add = r.number(func(one *octet.Reader) int { return one.Signed() })
		o.High = r.num(255)
		b.Orders = append(b.Orders, o)
	}
	for range r.num(255) {
		x := api.Entry{Kind: r.num(2)}
		switch x.Kind {
		case 0:
			panic(api.ErrForm)
		case 1:
			x.Sort = r.row()
			x.Params = r.rows()
			x.Indices = r.rows()
			for range r.num(255) {
				c := api.Ctor{Args: r.rows()}
				c.Out = r.rows()
				x.Ctors = append(x.Ctors, c)
			}
		case 2:
			x.Type = r.row()
			x.Body = r.row()
		}
		b.Entries = append(b.Entries, x)
	}
	b.Nat = r.num(255) - 1
	for range r.num(255) {
		b.Prims = append(b.Prims, api.Prim{Entry: r.num(255)})
		b.Prims[len(b.Prims)-1].Id = r.num(255)
	}
	p.Main = r.row()
	p.Type = r.row()
	return p
}

// programIs is the chapter's list of a program's faults.
func programIs(p api.Program) api.Errno {
	if e := fitsIs(p.Book, 0, p.Main); e != api.OK {
		return e
	}
	return fitsIs(p.Book, 0, p.Type)
}

// decodeIs is the chapter's Decode.
func decodeIs(b []byte) (p api.Program, e api.Errno) {
	defer func() {
		if r := recover(); r != nil {
			p, e = api.Program{}, r.(api.Errno)
		}
	}()
	if len(b) > 65536 {
		return p, api.ErrLarge
	}
	r := reading{b}
	p = r.program()
	if len(r.left) > 0 {
		return api.Program{}, api.ErrForm
	}
	if e = programIs(p); e != api.OK {
		p = api.Program{}
	}
	return p, e
}

// decodes says whether Decode answers that error, and what the chapter asks for.
func decodes(t *testing.T, name string, b []byte, want api.Errno) {
	t.Helper()
	p, e := book.Decode(b)
	wantP, wantE := decodeIs(b)
	if e != want || wantE != want || !same(p, wantP) {
		t.Errorf("%s: %d, by the chapter %d, not %d", name, e, wantE, want)
	}
}

// encodes says whether Encode answers these bytes, or nothing beside that error.
func encodes(t *testing.T, name string, p api.Program, want api.Errno) {
	t.Helper()
	b, e := book.Encode(p)
	if e != want || want == api.OK && !bytes.Equal(b, bytesOf(p)) || want != api.OK && len(b) != 0 {
		t.Errorf("%s: %d bytes, %d, not %d", name, len(b), e, want)
	}
}

// basic answers the base book with a term and a type.
func basic(turns ...func(p *api.Program)) api.Program {
	p := api.Program{Book: base(), Main: api.Term{app, ctor(0, 1), con(6)}, Type: api.Term{ind(0)}}
	for _, turn := range turns {
		turn(&p)
	}
	return p
}

// P5.5

func TestEncode(t *testing.T) {
	p := api.Program{Book: api.Book{Vars: 2, Orders: []api.Order{{Low: 1, Add: -1, High: 2}, {Low: 0, Add: 64, High: 1}}, Nat: -1}, Main: api.Term{sort(0, 2), atom(1, 0), atom(2, 300)}, Type: set}
	p.Book.Entries = []api.Entry{
		{Kind: api.Family, Sort: set, Params: []api.Term{set}, Indices: []api.Term{{v(0)}, {v(1)}}, Ctors: []api.Ctor{{Args: []api.Term{{v(0)}}, Out: []api.Term{{v(1)}, {v(0)}}}}},
		{Kind: api.Def, Type: set, Body: api.Term{ind(0)}},
	}
	b, e := book.Encode(p)
	want := slices.Concat(
		[]byte{2, 2, 1, 1, 2, 0, 0x80, 1, 1, 2},
		[]byte{1, 2, 2, 1, 1, 3, 0, 0}, []byte{1, 2, 2, 1, 1, 3, 0, 0}, []byte{2, 1, 1, 0, 0, 1, 1, 1, 0}, []byte{1, 1, 1, 1, 0, 0, 2, 1, 1, 1, 0, 1, 1, 0, 0},
		[]byte{2, 2, 2, 1, 1, 3, 0, 0, 1, 9, 0, 0},
		[]byte{0, 0, 3, 2, 0, 2, 3, 1, 0, 3, 2, 0xac, 2, 2, 2, 1, 1, 3, 0, 0},
	)
	if e != api.OK || !bytes.Equal(b, want) {
		t.Errorf("%v, %d, not %v", b, e, want)
	}
	b, e = book.Encode(api.Program{Book: api.Book{Nat: -1}, Main: set, Type: set})
	if e != api.OK || !bytes.Equal(b, []byte{0, 0, 0, 0, 0, 2, 2, 1, 1, 3, 0, 0, 2, 2, 1, 1, 3, 0, 0}) {
		t.Errorf("%v, %d", b, e)
	}
	encodes(t, "basic", basic(), api.OK)
}

func TestEncodeErrors(t *testing.T) {
	none, big := api.Term{ind(2)}, sized(4097)
	for _, c := range []struct {
		main, typ api.Term
		e         api.Errno
	}{
		{none, set, api.ErrShape}, {set, none, api.ErrShape}, {big, set, api.ErrBig}, {set, big, api.ErrBig}, {none, big, api.ErrShape}, {big, none, api.ErrBig},
		{nil, set, api.ErrShape}, {set, nil, api.ErrShape}, {api.Term{v(0)}, set, api.ErrShape}, {set, api.Term{v(0)}, api.ErrShape}, {api.Term{lam, ind(0), v(0)}, set, api.OK},
		{sized(4096), sized(4096), api.OK}, {api.Term{con(7)}, set, api.ErrShape}, {set, api.Term{con(6)}, api.OK}, {set, api.Term{con(5)}, api.ErrShape}, {api.Term{ctor(5, 2)}, api.Term{ctor(5, 3)}, api.ErrShape},
		{api.Term{sort(0, 1), atom(2, 0)}, api.Term{sort(0, 1), atom(3, 0)}, api.ErrShape},
	} {
		encodes(t, "main and type", basic(func(p *api.Program) { p.Main, p.Type = c.main, c.typ }), c.e)
		for want, b := range wrongBooks() {
			encodes(t, "a wrong book", api.Program{Book: b, Main: c.main, Type: c.typ}, want)
		}
	}
	for _, s := range slots() {
		for _, c := range nameCases(s.at, s.itself) {
			encodes(t, s.name, basic(func(p *api.Program) { *s.row(&p.Book) = c.row }), c.e)
		}
	}
	for _, c := range append(shapeCases(0), nameCases(7, false)...) {
		encodes(t, "main", basic(func(p *api.Program) { p.Main = c.row }), c.e)
		encodes(t, "type", basic(func(p *api.Program) { p.Type = c.row }), c.e)
	}
}

// filled answers a program of just so many bytes, some 60,000 of them or more.
func filled(t *testing.T, size int) api.Program {
	t.Helper()
	p := basic()
	for range 5 {
		p.Book.Entries = append(p.Book.Entries, api.Entry{Kind: api.Def, Type: set, Body: sized(4096)})
	}
	p.Type = api.Term{sort(1, 3), atom(0, 0), atom(1, 0), atom(2, 0)}
	for i := range 3 {
		p.Main = sized(1)
		most := (size - len(bytesOf(p))) / 3 // a node has three bytes
		for n := most - 2; n <= most+2; n++ {
			p.Main = sized(n)
			if len(bytesOf(p)) == size {
				return p
			}
		}
		p.Type[i+1].B = 128
	}
	t.Fatalf("no program of %d bytes", size)
	return p
}

func TestEncodeSizes(t *testing.T) {
	for size := 65530; size <= 65536; size++ {
		p := filled(t, size)
		encodes(t, "as many as may be", p, api.OK)
		b, e := book.Encode(p)
		if q, back := book.Decode(b); len(b) != size || e != api.OK || back != api.OK || !same(p, q) {
			t.Errorf("%d bytes, %d, %d", len(b), e, back)
		}
	}
	for _, size := range []int{65537, 65538, 65539, 65540, 66000} {
		encodes(t, "too many", filled(t, size), api.ErrLarge)
		p := filled(t, size)
		p.Type = nil
		encodes(t, "too many, and no type", p, api.ErrShape)
	}
	huge := api.Entry{Kind: api.Family, Sort: set, Ctors: slices.Repeat([]api.Ctor{{Args: slices.Repeat([]api.Term{sized(4096)}, 16)}}, 16)}
	p := basic()
	for len(p.Book.Entries) < 64 {
		p.Book.Entries = append(p.Book.Entries, huge)
	}
	encodes(t, "much too many", p, api.ErrLarge)
	p.Main = api.Term{con(7)}
	encodes(t, "much too many, and no term", p, api.ErrShape)
}

// P5.6

func TestDecode(t *testing.T) {
	decodes(t, "basic", bytesOf(basic()), api.OK)
	decodes(t, "nothing", nil, api.ErrMore)
	decodes(t, "an empty book", []byte{0, 0, 0, 0, 0, 2, 2, 1, 1, 3, 0, 0, 2, 2, 1, 1, 3, 0, 0}, api.OK)
	if p, e := book.Decode(bytesOf(basic())); e != api.OK || !same(p, basic()) {
		t.Errorf("%v, %d", p, e)
	}
}

// There and back: programs of all kinds.
func TestDecodeOfEncode(t *testing.T) {
	d := dice(6)
	for range 3000 {
		p := d.program()
		b, e := book.Encode(p)
		if e != api.OK || !bytes.Equal(b, bytesOf(p)) {
			t.Fatalf("%v: %d bytes, %d", p, len(b), e)
		}
		if q, e := book.Decode(b); e != api.OK || !same(p, q) {
			t.Fatalf("%v: %v, %d", p, q, e)
		}
	}
}

// Each beginning wants more; a byte behind is one too many.
func TestDecodeOfBeginnings(t *testing.T) {
	d := dice(7)
	list := []api.Program{basic(), d.program(), d.program(), d.program(), d.program(), d.program()}
	for _, p := range list {
		b := bytesOf(p)
		for i := range b {
			decodes(t, "a beginning", b[:i], api.ErrMore)
		}
		for behind := range 256 {
			decodes(t, "a byte behind", append(slices.Clone(b), byte(behind)), api.ErrForm)
		}
		decodes(t, "bytes behind", slices.Concat(b, b), api.ErrForm)
	}
}

func TestDecodeSizes(t *testing.T) {
	b := bytesOf(filled(t, 65536))
	decodes(t, "as many as may be", b, api.OK)
	decodes(t, "one less", b[:65535], api.ErrMore)
	for _, behind := range []int{1, 2, 1000, 100000} {
		decodes(t, "more", append(slices.Clone(b), make([]byte, behind)...), api.ErrLarge)
		decodes(t, "more that are none", slices.Repeat([]byte{255}, 65536+behind), api.ErrLarge)
	}
	decodes(t, "a program of too many", bytesOf(filled(t, 65537)), api.ErrLarge)
	decodes(t, "noughts", make([]byte, 65536), api.ErrForm)
	decodes(t, "none", slices.Repeat([]byte{255}, 65536), api.ErrForm)
}

// Each number at its greatest is read, one more is not: what is behind it is not looked at.
func TestDecodeOfGreatNumbers(t *testing.T) {
	rows := func(n int) []api.Term { return slices.Repeat([]api.Term{{ind(0)}}, n) }
	for name, c := range map[string]struct {
		most int
		turn func(p *api.Program, n int)
		e    api.Errno // of the greatest
	}{
		"Vars":         {255, func(p *api.Program, n int) { p.Book.Vars = n }, api.ErrArg},
		"orders":       {255, func(p *api.Program, n int) { p.Book.Orders = make([]api.Order, n) }, api.ErrFull},
		"Low":          {255, func(p *api.Program, n int) { p.Book.Orders[0].Low = n }, api.ErrArg},
		"High":         {255, func(p *api.Program, n int) { p.Book.Orders[0].High = n }, api.ErrArg},
		"entries":      {255, func(p *api.Program, n int) { p.Book.Entries = slices.Repeat(p.Book.Entries[:1], n) }, api.ErrFull},
		"Params":       {255, func(p *api.Program, n int) { p.Book.Entries[3].Params = rows(n) }, api.ErrFull},
		"Indices":      {255, func(p *api.Program, n int) { p.Book.Entries[3].Indices = rows(n) }, api.ErrFull},
		"constructors": {255, func(p *api.Program, n int) { p.Book.Entries[5].Ctors = make([]api.Ctor, n) }, api.ErrFull},
		"Args":         {255, func(p *api.Program, n int) { p.Book.Entries[5].Ctors[1].Args = rows(n) }, api.ErrFull},
		"Out":          {255, func(p *api.Program, n int) { p.Book.Entries[5].Ctors[1].Out = rows(n) }, api.ErrShape},
		"Nat and one":  {255, func(p *api.Program, n int) { p.Book.Nat = n - 1 }, api.ErrPrim},
		"primitives":   {255, func(p *api.Program, n int) { p.Book.Prims = slices.Repeat(p.Book.Prims[:1], n) }, api.ErrPrim},
		"Entry":        {255, func(p *api.Program, n int) { p.Book.Prims[1].Entry = n }, api.ErrPrim},
		"Id":           {255, func(p *api.Program, n int) { p.Book.Prims[1].Id = n }, api.ErrPrim},
		"nodes":        {4096, func(p *api.Program, n int) { p.Book.Entries[6].Type = sized(n) }, api.OK},
		"Main's nodes": {4096, func(p *api.Program, n int) { p.Main = sized(n) }, api.OK},
		"Type's nodes": {4096, func(p *api.Program, n int) { p.Type = sized(n) }, api.OK},
		"Sort's nodes": {4096, func(p *api.Program, n int) { p.Book.Entries[5].Sort = sized(n) }, api.ErrShape},
		"Op":           {255, func(p *api.Program, n int) { p.Main[1].Op = n }, api.ErrShape},
		"A":            {1 << 20, func(p *api.Program, n int) { p.Main = api.Term{v(n)} }, api.ErrShape},
		"B":            {1 << 20, func(p *api.Program, n int) { p.Book.Entries[6].Body[0].B = n }, api.ErrShape},
	} {
		for _, n := range []int{c.most - 1, c.most, c.most + 1} {
			b := bytesOf(basic(func(p *api.Program) { c.turn(p, n) }))
			want := c.e
			if n > c.most {
				want = api.ErrForm
			}
			decodes(t, name, b, want)
			if n > c.most {
				decodes(t, name+", and half of the bytes", b[:len(b)-4], api.ErrForm)
			}
		}
	}
}

func TestDecodeOfSignedNumbers(t *testing.T) {
	for _, c := range []struct {
		add []byte
		e   api.Errno
	}{
		{octet.Signed(nil, 0), api.OK}, {octet.Signed(nil, 1000), api.OK}, {octet.Signed(nil, -1000), api.OK}, {octet.Signed(nil, 1001), api.ErrArg}, {octet.Signed(nil, -1001), api.ErrArg},
		{octet.Signed(nil, math.MaxInt), api.ErrArg}, {octet.Signed(nil, math.MinInt), api.ErrArg}, {[]byte{0x80, 0}, api.ErrForm}, {slices.Repeat([]byte{255}, 10), api.ErrForm}, {append(slices.Repeat([]byte{255}, 9), 2), api.ErrForm},
	} {
		decodes(t, "Add", slices.Concat([]byte{2, 1, 1}, c.add, []byte{2, 0, 0, 0}, rowForm(set), rowForm(set)), c.e)
	}
}

// A kind that is none ends the reading, whatever is behind it.
func TestDecodeOfKinds(t *testing.T) {
	entries := []byte{0, 0, 3, 2, 2, 2, 1, 1, 3, 0, 0, 2, 2, 1, 1, 3, 0, 0}
	for _, behind := range [][]byte{nil, {0}, {1}, {128}, {255, 255}, bytesOf(basic()), make([]byte, 100)} {
		for _, kind := range []byte{0, 3, 4, 127, 255} {
			decodes(t, "no kind", slices.Concat(entries, []byte{kind}, behind), api.ErrForm)
		}
		decodes(t, "a kind in a longer form", slices.Concat(entries, []byte{129, 0}, behind), api.ErrForm)
	}
	decodes(t, "a kind that might come", append(slices.Clone(entries), 128), api.ErrForm)
	for e := range base().Entries {
		decodes(t, "no kind", bytesOf(basic(func(p *api.Program) { p.Book.Entries[e].Kind = 0 })), api.ErrForm)
	}
	decodes(t, "no kind behind what is not right", []byte{17, 0, 1, 0}, api.ErrForm)
}

// What is read is looked at only when it has come to its end; then as Encode does.
func TestDecodeOrder(t *testing.T) {
	wrong := map[api.Errno]func(p *api.Program){
		api.ErrArg:   func(p *api.Program) { p.Book.Vars = 17 },
		api.ErrCycle: func(p *api.Program) { p.Book.Orders = append(p.Book.Orders, api.Order{Low: 2, High: 1}) },
		api.ErrFull:  func(p *api.Program) { p.Book.Entries[3].Params = make([]api.Term, 17) },
		api.ErrShape: func(p *api.Program) { p.Book.Entries[6].Body = api.Term{con(6)} },
		api.ErrPrim:  func(p *api.Program) { p.Book.Nat = 9 },
	}
	for want, turn := range wrong {
		b := bytesOf(basic(turn))
		decodes(t, "wrong", b, want)
		decodes(t, "wrong, and one more byte", append(slices.Clone(b), 0), api.ErrForm)
		decodes(t, "wrong, and one less", b[:len(b)-1], api.ErrMore)
		decodes(t, "wrong, and a number that is none", append(slices.Clone(b[:len(b)-1]), 129, 0), api.ErrForm)
		decodes(t, "wrong, and no term", bytesOf(basic(turn, func(p *api.Program) { p.Main = nil })), want)
		decodes(t, "wrong, and no type", bytesOf(basic(turn, func(p *api.Program) { p.Type = nil })), want)
	}
	for _, row := range []api.Term{nil, {v(0)}, {con(7)}, {ind(6)}, {{Op: 255, A: 1, B: 1}}, {ind(0), ind(0)}} {
		decodes(t, "no term", bytesOf(basic(func(p *api.Program) { p.Main = row })), api.ErrShape)
		decodes(t, "no type", bytesOf(basic(func(p *api.Program) { p.Type = row })), api.ErrShape)
	}
	for at := range 8 { // two faults of reading: the first one is told
		b := bytesOf(basic())
		b[at], b[at+1] = 255, 255
		decodes(t, "a number that is none, and more wanted", b[:len(b)-1], api.ErrForm)
	}
}

// Bytes that are changed here and there are held against the chapter's reading.
func TestDecodeOfChangedBytes(t *testing.T) {
	d := dice(8)
	met := map[api.Errno]int{}
	for range 20000 {
		p := clone(d.program())
		if d.below(3) == 0 {
			d.turnRow(&p)
		}
		b := bytesOf(p)
		if slices.ContainsFunc(rowsOf(&p), func(t *api.Term) bool {
			return slices.ContainsFunc(*t, func(n api.Node) bool { return n.Op < 0 || n.A < 0 || n.B < 0 })
		}) {
			continue
		}
		at := d.below(len(b))
		switch d.below(6) {
		case 0:
			b = slices.Delete(b, at, at+1)
		case 1:
			b = slices.Insert(b, at, byte(d.below(256)))
		case 2:
			b = b[:at]
		case 3:
			b[at] = byte(d.below(256))
		case 4:
			b[at] = byte(d.below(4))
		}
		got, e := book.Decode(b)
		want, wantE := decodeIs(b)
		if e != wantE || !same(got, want) {
			t.Fatalf("%v: %v, %d; not %v, %d", b, got, e, want, wantE)
		}
		if again, _ := book.Encode(got); e == api.OK && !bytes.Equal(again, b) {
			t.Fatalf("%v: another form is %v", b, again)
		}
		met[e]++
	}
	for _, e := range []api.Errno{api.OK, api.ErrForm, api.ErrMore, api.ErrShape, api.ErrArg, api.ErrPrim} {
		if met[e] < 20 {
			t.Errorf("%d is met %d times", e, met[e])
		}
	}
}
