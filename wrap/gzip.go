package wrap

import (
	"bellows/api"
	"bellows/sums"
)

// The flags of a Gzip.
const (
	flagCheck  = 2
	flagExtra  = 4
	flagName   = 8
	flagRemark = 16
	flagBarred = 32 | 64 | 128
)

// gzip is what is kept of a Gzip while it is read.
type gzip struct {
	*Decoder
	flags   int
	left    int        // how many bytes are still to be passed over
	head    sums.Check // of the head's bytes so far
	letters []rune     // of a name whose end has not come
	check   sums.Check // of what was put out so far
	size    uint32     // how many bytes that is, modulo 2^32
}

func gzipParts(d *Decoder) []part {
	// the first ones that are passed over are the six behind the flags
	g := &gzip{Decoder: d, left: 6}
	return []part{
		g.mark(31), g.mark(139), g.mark(8),
		g.readFlags,
		g.pass,
		g.with(flagExtra, g.extraSize), g.with(flagExtra, g.pass),
		g.with(flagName, g.letter),
		g.with(flagRemark, g.remark),
		g.with(flagCheck, g.headHolds),
		g.bare,
		g.checkHolds,
		g.sizeHolds,
	}
}

// with is a part that is there only if a flag is set.
func (g *gzip) with(flag int, read part) part {
	return func() (bool, api.Errno) {
		if g.flags&flag == 0 {
			return true, api.OK
		}
		return read()
	}
}

// headByte reads a byte that belongs to what the head's check is of.
func (g *gzip) headByte() int {
	read := g.from.Number(8)
	g.head = g.head.With(byte(read))
	return read
}

func (g *gzip) mark(want int) part {
	return func() (bool, api.Errno) {
		return holds(g.headByte() == want, api.ErrHead)
	}
}

func (g *gzip) readFlags() (bool, api.Errno) {
	g.flags = g.headByte()
	return holds(g.flags&flagBarred == 0, api.ErrHead)
}

func (g *gzip) pass() (bool, api.Errno) {
	if g.left > 0 {
		g.headByte()
		g.left--
	}
	return g.left == 0, api.OK
}

func (g *gzip) extraSize() (bool, api.Errno) {
	// not by two bytes: the first one would be in the check twice, if the second
	// one were missing and both were read anew
	size := g.from.Number(16)
	g.head = g.head.With(byte(size), byte(size>>8))
	g.left = size
	return true, api.OK
}

func (g *gzip) letter() (bool, api.Errno) {
	read := g.headByte()
	if read > 0 {
		g.letters = append(g.letters, rune(read))
		return false, api.OK
	}
	g.name = string(g.letters)
	g.letters = nil
	return true, api.OK
}

func (g *gzip) remark() (bool, api.Errno) {
	return g.headByte() == 0, api.OK
}

func (g *gzip) headHolds() (bool, api.Errno) {
	told := uint16(g.from.Number(16))
	return holds(told == uint16(g.head), api.ErrSum)
}

// bare checks and counts what was put out run by run, as it is not kept to the end.
func (g *gzip) bare() (bool, api.Errno) {
	through, err := g.Decoder.bare()
	g.check = g.check.With(g.out...)
	g.size += uint32(len(g.out))
	return through, err
}

func (g *gzip) checkHolds() (bool, api.Errno) {
	told := sums.Check(g.from.Number(32))
	return holds(told == g.check, api.ErrSum)
}

func (g *gzip) sizeHolds() (bool, api.Errno) {
	told := uint32(g.from.Number(32))
	return holds(told == g.size, api.ErrSum)
}
