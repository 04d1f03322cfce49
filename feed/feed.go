// Package feed hands out the bits of bytes, one after the other.
package feed

import (
	"slices"

	"bellows/api"
)

// Missing is what a read panics with if a bit of it is not there: a thing that
// takes many reads then needs no way out behind each of them.
type Missing struct{}

// Feed stands somewhere in bytes, which it only reads.
type Feed struct {
	from      []byte
	at        int // counted in bits
	forgotten int // how many bytes were ahead of these
}

// New makes a feed that stands ahead of the first bit.
func New(from []byte) *Feed {
	return &Feed{from: from}
}

// Add lays more bytes behind those that are there. They are copied: their owner
// may write into them afterwards.
func (f *Feed) Add(more []byte) {
	f.from = slices.Concat(f.from, more)
}

// Forget drops the bytes that were read whole. Not while a thing is read: it
// could not be read anew.
func (f *Feed) Forget() {
	whole := f.at / 8
	f.from = slices.Clone(f.from[whole:])
	f.at -= whole * 8
	f.forgotten += whole
}

// Bit reads one bit.
func (f *Feed) Bit() int {
	if f.at/8 >= len(f.from) {
		panic(Missing{})
	}
	bit := f.from[f.at/8] >> (f.at % 8) & 1
	f.at++
	return int(bit)
}

// Number reads a number of so many bits. On a byte's beginning one of 8 bits is
// a byte and one of 16 a word, as the lowest byte comes first.
func (f *Feed) Number(bits int) int {
	number := 0
	for i := range bits {
		number |= f.Bit() << i
	}
	return number
}

// PassByte passes over what is left of a byte that was begun.
func (f *Feed) PassByte() {
	f.at = f.begun() * 8
}

// Used tells how many bytes were read, one that was only begun among them.
func (f *Feed) Used() int {
	return f.forgotten + f.begun()
}

// begun is Used without what was forgotten.
func (f *Feed) begun() int {
	return (f.at + 7) / 8
}

// Whole reads one thing as a whole: if bits of it are missing, the answer is
// ErrEnd, and the feed stands ahead of it again, so that it can be read anew.
func (f *Feed) Whole(read func() api.Errno) (err api.Errno) {
	begin := f.at
	defer func() {
		switch cause := recover().(type) {
		case nil:
		case Missing:
			f.at = begin
			err = api.ErrEnd
		default:
			// not ours: hiding it would pass a fault off as an early end
			panic(cause)
		}
	}()
	return read()
}
