package wrap

import (
	"bellows/api"
	"bellows/sums"
)

// The bit of a Zlib's second byte that may not be set.
const zlibBarred = 32

// zlib is what is kept of a Zlib while it is read.
type zlib struct {
	*Decoder
	first int
	sum   sums.Sum // of what was put out so far
}

func zlibParts(d *Decoder) []part {
	z := &zlib{Decoder: d, sum: sums.NoSum}
	return []part{z.firstByte, z.secondByte, z.bare, z.sumHolds}
}

func (z *zlib) firstByte() (bool, api.Errno) {
	z.first = z.from.Number(8)
	return holds(z.first%16 == 8 && z.first/16 <= 7, api.ErrHead)
}

func (z *zlib) secondByte() (bool, api.Errno) {
	second := z.from.Number(8)
	both := 256*z.first + second
	return holds(second&zlibBarred == 0 && both%31 == 0, api.ErrHead)
}

// bare sums up what was put out run by run, as it is not kept to the end.
func (z *zlib) bare() (bool, api.Errno) {
	through, err := z.Decoder.bare()
	z.sum = z.sum.With(z.out...)
	return through, err
}

func (z *zlib) sumHolds() (bool, api.Errno) {
	var told sums.Sum
	for range 4 {
		told = 256*told + sums.Sum(z.from.Number(8))
	}
	return holds(told == z.sum, api.ErrSum)
}
