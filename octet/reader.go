package octet

import (
	"math"
	"slices"

	"retort/api"
)

// longest is how many bytes the form of a number of 64 bits has at most.
const longest = 10

// Reader reads rows, and by what it embeds numbers.
type Reader struct{ numbers }

// New answers a reader of these bytes, as they are now.
func New(b []byte) *Reader {
	return &Reader{numbers{left: slices.Clone(b)}}
}

// Row reads a row: no nodes, if there is an error.
func (r *Reader) Row() api.Term {
	var row api.Term
	for range r.Num(api.MaxTerm) {
		row = append(row, api.Node{Op: r.Num(mostOp), A: r.Num(api.MostNum), B: r.Num(api.MostNum)})
		if r.Err() != api.OK {
			return nil
		}
	}
	return row
}

// numbers reads numbers off bytes, till the first error.
type numbers struct {
	left  []byte
	fault api.Errno
}

// Num reads a number from 0 to most: 0, if there is an error.
func (n *numbers) Num(most int) int {
	if most < 0 { // no number is asked for: more bytes would not help
		n.fail(api.ErrForm)
		return 0
	}
	return int(n.next(uint64(most)))
}

// Signed reads a number that may be below 0: 0, if there is an error.
func (n *numbers) Signed() int {
	return unfold(n.next(math.MaxUint64))
}

// Err answers the first error.
func (n *numbers) Err() api.Errno { return n.fault }

// Left answers how many bytes were not read.
func (n *numbers) Left() int { return len(n.left) }

// fail keeps an error, if it is the first.
func (n *numbers) fail(fault api.Errno) {
	if n.fault == api.OK {
		n.fault = fault
	}
}

// next reads a number up to most. Where it fails, nothing is read.
func (n *numbers) next(most uint64) uint64 {
	if n.fault != api.OK {
		return 0
	}
	value, size, fault := parse(n.left, most)
	if fault != api.OK {
		n.fail(fault)
		return 0
	}
	n.left = n.left[size:]
	return value
}

// parse answers the number up to most whose form b begins with, and of how many bytes that is: ErrMore, if b is the beginning of such a form, else ErrForm.
func parse(b []byte, most uint64) (uint64, int, api.Errno) {
	value := uint64(0)
	for i := range min(len(b), longest) {
		group := uint64(b[i] % more)
		value |= group << (i * groupBits)
		if value>>(i*groupBits) != group { // beyond 64 bits
			return 0, 0, api.ErrForm
		}
		if b[i] >= more {
			continue
		}
		if value > most || group == 0 && i > 0 {
			return 0, 0, api.ErrForm
		}
		return value, i + 1, api.OK
	}
	if len(b) < longest && least(value, len(b)) <= most {
		return 0, 0, api.ErrMore
	}
	return 0, 0, api.ErrForm
}

// least answers the least number whose form begins with so many bytes, fewer than the longest form has, which tell value and that more come: the next byte cannot be 0, unless it is the first.
func least(value uint64, size int) uint64 {
	if size == 0 {
		return 0
	}
	return value + 1<<(size*groupBits)
}
