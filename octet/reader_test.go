package octet_test

import (
	"math"
	"slices"
	"testing"

	"retort/api"
	"retort/octet"
)

// numGives says whether Num(most) of these bytes answers that number and error, and leaves so many bytes.
func numGives(b []byte, most, n int, e api.Errno, left int) bool {
	r := octet.New(b)
	return r.Num(most) == n && r.Err() == e && r.Left() == left
}

// P2.2

func TestNumExamples(t *testing.T) {
	for _, c := range []struct {
		b    []byte
		most int
		n    int
		e    api.Errno
		left int
	}{
		{[]byte{0x80, 2}, 200, 0, api.ErrForm, 2},
		{[]byte{0x80}, 200, 0, api.ErrMore, 1},
		{[]byte{0x80}, 127, 0, api.ErrForm, 1},
		{[]byte{0x80}, 128, 0, api.ErrMore, 1},
		{[]byte{0x81}, 128, 0, api.ErrForm, 1},
		{[]byte{0x80, 0}, 200, 0, api.ErrForm, 2},
		{[]byte{0x81, 0}, 200, 0, api.ErrForm, 2},
		{[]byte{0x80, 0x80, 0}, math.MaxInt, 0, api.ErrForm, 3},
		{nil, 200, 0, api.ErrMore, 0},
		{nil, 0, 0, api.ErrMore, 0},
		{[]byte{}, 0, 0, api.ErrMore, 0},
		{[]byte{0}, 0, 0, api.OK, 0},
		{[]byte{1}, 0, 0, api.ErrForm, 1},
		{[]byte{0x80}, 0, 0, api.ErrForm, 1},
		{[]byte{0xac, 2, 9}, 300, 300, api.OK, 1},
		{[]byte{0xac, 2, 9}, 299, 0, api.ErrForm, 3},
	} {
		if !numGives(c.b, c.most, c.n, c.e, c.left) {
			t.Errorf("Num(%d) of %s", c.most, show(c.b))
		}
	}
	for _, b := range [][]byte{nil, {0}, {1}, {0x80}, {0x80, 1}, {0xff, 0xff}, {5, 5}} {
		for _, most := range []int{-1, -2, -128, -1 << 32, math.MinInt + 1, math.MinInt} {
			if !numGives(b, most, 0, api.ErrForm, len(b)) {
				t.Errorf("Num(%d) of %s", most, show(b))
			}
		}
	}
}

// Each of the numbers is read from its own form, wherever it is at most the most, and none else; a form that is cut wants more.
func TestNumAtEdges(t *testing.T) {
	for _, n := range naturals() {
		f := form(n)
		if !numGives(f, n, n, api.OK, 0) || !numGives(f, math.MaxInt, n, api.OK, 0) || !numGives(append(f, 0x80, 7), n, n, api.OK, 2) {
			t.Errorf("%d is not read", n)
		}
		if !numGives(f, n-1, 0, api.ErrForm, len(f)) || !numGives(f, n/2-1, 0, api.ErrForm, len(f)) {
			t.Errorf("%d is read, and is above", n)
		}
		for cut := range f {
			if !numGives(f[:cut], n, 0, api.ErrMore, cut) || !numGives(f[:cut], math.MaxInt, 0, api.ErrMore, cut) {
				t.Errorf("%d, cut to %d bytes", n, cut)
			}
		}
		long := slices.Clone(f)
		long[len(long)-1] |= 0x80
		for range 12 {
			long = append(long, 0)
			if !numGives(long, math.MaxInt, 0, api.ErrForm, len(long)) {
				t.Errorf("%d is read with a last byte of 0: %s", n, show(long))
			}
			long[len(long)-1] = 0x80
		}
	}
}

// beginnings tells of each beginning of a form, up to three bytes, the least number whose form goes on from there; and of each form its number.
func beginnings() (least, whole map[string]int) {
	least, whole = map[string]int{}, map[string]int{}
	for n := range 1 << 18 {
		f := form(n)
		whole[string(f)] = n
		for cut := range f {
			if _, ok := least[string(f[:cut])]; !ok {
				least[string(f[:cut])] = n
			}
		}
	}
	return least, whole
}

// All texts of up to two bytes, and some of three: held against a list of all forms.
func TestNumOfAllShortBytes(t *testing.T) {
	least, whole := beginnings()
	texts := [][]byte{{}}
	for a := range 256 {
		texts = append(texts, []byte{byte(a)})
		for b := range 256 {
			texts = append(texts, []byte{byte(a), byte(b)})
		}
		for _, end := range []byte{0, 1, 2, 0x7f, 0x80, 0x81, 0xff} {
			texts = append(texts, []byte{byte(a), 0x80, end}, []byte{byte(a), 0xff, end}, []byte{byte(a), 0x00, end})
		}
	}
	for _, most := range []int{-1, 0, 1, 126, 127, 128, 129, 200, 255, 256, 300, 383, 384, 4095, 4096, 16383, 16384, 16385, 32767, 40000, 1 << 17} {
		for _, b := range texts {
			n, e, left := wantNum(b, most, least, whole)
			if !numGives(b, most, n, e, left) {
				t.Errorf("Num(%d) of %s: not %d, %d, %d left", most, show(b), n, e, left)
			}
		}
	}
}

// wantNum tells by the list of all forms what Num answers, the error, and how many bytes are left.
func wantNum(b []byte, most int, least, whole map[string]int) (int, api.Errno, int) {
	for size := 1; size <= len(b); size++ {
		if n, ok := whole[string(b[:size])]; ok && n <= most {
			return n, api.OK, len(b) - size
		}
	}
	if n, ok := least[string(b)]; ok && n <= most {
		return 0, api.ErrMore, len(b)
	}
	return 0, api.ErrForm, len(b)
}

// Forms of numbers beyond 63 bits are none of a number that is asked for.
func TestNumBeyondAnInt(t *testing.T) {
	const most = math.MaxInt
	nine := slices.Repeat([]byte{0xff}, 9)
	eight := slices.Repeat([]byte{0x80}, 8)
	for _, c := range []struct {
		b []byte
		n int
		e api.Errno
	}{
		{append(slices.Clone(nine[:8]), 0x7f), math.MaxInt, api.OK},
		{append(slices.Clone(eight), 0x7f), 127 << 56, api.OK},
		{append(slices.Clone(eight), 0x40), 1 << 62, api.OK},
		{eight, 0, api.ErrMore},
		{nine[:8], 0, api.ErrMore},
		{nine, 0, api.ErrForm},
		{append(slices.Clone(eight), 0x80), 0, api.ErrForm},
		{append(slices.Clone(eight), 0), 0, api.ErrForm},
		{append(slices.Clone(eight), 0x80, 1), 0, api.ErrForm},
		{append(slices.Clone(nine), 1), 0, api.ErrForm},
		{append(slices.Clone(eight), 0x80, 2), 0, api.ErrForm},
		{append(slices.Clone(eight), 0x80, 0x80, 1), 0, api.ErrForm},
		{append(slices.Clone(eight), 0x80, 0x80, 0x80, 0x80, 0x80), 0, api.ErrForm},
		{slices.Repeat([]byte{0xff}, 1000), 0, api.ErrForm},
		{slices.Repeat([]byte{0x80}, 1000), 0, api.ErrForm},
	} {
		left := len(c.b)
		if c.e == api.OK {
			left = 0
		}
		if !numGives(c.b, most, c.n, c.e, left) {
			t.Errorf("of %s", show(c.b))
		}
	}
	if !numGives(nine[:8], most-1, 0, api.ErrMore, 8) || !numGives(nine[:8], 1<<57-2, 0, api.ErrForm, 8) || !numGives(nine[:8], 1<<57-1, 0, api.ErrMore, 8) {
		t.Error("the least number of nine bytes that ends so")
	}
}

func TestSignedRead(t *testing.T) {
	for _, n := range integers() {
		f := signedForm(n)
		r := octet.New(append(slices.Clone(f), 0x80))
		if got := r.Signed(); got != n || r.Err() != api.OK || r.Left() != 1 {
			t.Errorf("%d: %d, %d, %d left", n, got, r.Err(), r.Left())
		}
		for cut := range f {
			if !signedFails(f[:cut], api.ErrMore) {
				t.Errorf("%d, cut to %d bytes", n, cut)
			}
		}
		f[len(f)-1] |= 0x80
		if !signedFails(append(f, 0), api.ErrForm) {
			t.Errorf("%d with a last byte of 0", n)
		}
	}
	nine, zeros := slices.Repeat([]byte{0xff}, 9), slices.Repeat([]byte{0x80}, 9)
	for _, b := range [][]byte{nil, nine, zeros, nine[:8], zeros[:1]} {
		if !signedFails(b, api.ErrMore) {
			t.Errorf("of %s", show(b))
		}
	}
	for _, last := range [][]byte{{0}, {2}, {3}, {0x7f}, {0x80}, {0x81}, {0xff}, {0x80, 0}, {0x80, 1}, {0x81, 0}, {0x81, 1}, zeros} {
		if !signedFails(slices.Concat(nine, last), api.ErrForm) || !signedFails(slices.Concat(zeros, last), api.ErrForm) {
			t.Errorf("of nine bytes and %s", show(last))
		}
	}
	r := octet.New(append(zeros, 1))
	if n := r.Signed(); n != 1<<62 || r.Err() != api.OK {
		t.Errorf("%d, %d", n, r.Err())
	}
}

// signedFails says whether Signed of these bytes answers that error, and reads none.
func signedFails(b []byte, e api.Errno) bool {
	r := octet.New(b)
	return r.Signed() == 0 && r.Err() == e && r.Left() == len(b)
}

func TestRowRead(t *testing.T) {
	for _, row := range rows() {
		r := octet.New(append(rowForm(row), 0x80, 0))
		if got := r.Row(); !slices.Equal(got, row) || r.Err() != api.OK || r.Left() != 2 {
			t.Errorf("of %d nodes: %d nodes, %d, %d left", len(row), len(got), r.Err(), r.Left())
		}
	}
}

// A row that is cut has no nodes and wants more; all numbers ahead of the cut are read.
func TestRowThatIsCut(t *testing.T) {
	for _, row := range rows()[:8] {
		whole := rowForm(row)
		begin := 0 // where the number that is cut begins
		for cut := range whole {
			if cut > 0 && whole[cut-1] < 0x80 {
				begin = cut
			}
			r := octet.New(whole[:cut])
			if got := r.Row(); len(got) != 0 || r.Err() != api.ErrMore || r.Left() != cut-begin {
				t.Errorf("%s, cut to %d bytes: %d nodes, %d, %d left", show(whole), cut, len(got), r.Err(), r.Left())
			}
		}
	}
}

// A row with a number that has no place there: what stands ahead of that number is read.
func TestRowOfWrongForm(t *testing.T) {
	for _, c := range []struct {
		ahead, bad []byte
		e          api.Errno
	}{
		{nil, form(api.MaxTerm + 1), api.ErrForm},
		{nil, form(math.MaxInt), api.ErrForm},
		{nil, []byte{0x80, 0}, api.ErrForm},
		{nil, []byte{0x80, 0xa0}, api.ErrForm},
		{nil, []byte{0x81}, api.ErrMore},
		{[]byte{1}, form(256), api.ErrForm},
		{[]byte{1}, []byte{0x80, 0x80}, api.ErrForm},
		{[]byte{1}, []byte{0x80}, api.ErrMore},
		{[]byte{1, 5}, form(1<<20 + 1), api.ErrForm},
		{[]byte{1, 5}, []byte{0x81, 0x80, 0xc0}, api.ErrForm},
		{[]byte{1, 5}, []byte{0x81, 0x80, 0x40}, api.ErrForm},
		{[]byte{1, 5}, []byte{0x80, 0x80}, api.ErrMore},
		{[]byte{1, 5, 0}, form(1<<20 + 1), api.ErrForm},
		{[]byte{1, 5, 0}, []byte{0x81, 0x00}, api.ErrForm},
		{[]byte{2, 5, 0, 1, 9, 9}, []byte{0xff, 0xff, 0x7f}, api.ErrForm},
		{[]byte{2, 5, 0, 1, 9, 9}, nil, api.ErrMore},
	} {
		r := octet.New(slices.Concat(c.ahead, c.bad))
		if got := r.Row(); len(got) != 0 || r.Err() != c.e || r.Left() != len(c.bad) {
			t.Errorf("%s, then %s: %d nodes, %d, %d left", show(c.ahead), show(c.bad), len(got), r.Err(), r.Left())
		}
	}
	if r := octet.New([]byte{0x80, 0xa0, 0}); len(r.Row()) != 0 || r.Err() != api.ErrForm || r.Left() != 3 {
		t.Error("of 4096 nodes, with a last byte of 0")
	}
}

// What is put is read again, one behind the other.
func TestAllInOrder(t *testing.T) {
	var b []byte
	for _, n := range naturals() {
		b, _ = octet.Put(b, n)
		b = octet.Signed(b, -n)
		b, _ = octet.Row(b, row(n%50))
	}
	r := octet.New(b)
	left := len(b)
	for _, n := range naturals() {
		left -= len(form(n)) + len(signedForm(-n)) + len(rowForm(row(n%50)))
		if r.Num(n) != n || r.Signed() != -n || !slices.Equal(r.Row(), row(n%50)) || r.Err() != api.OK || r.Left() != left {
			t.Fatalf("at %d: %d, %d left", n, r.Err(), r.Left())
		}
	}
	if r.Num(9) != 0 || r.Err() != api.ErrMore {
		t.Error("behind the end")
	}
}
