// Package sums works out the numbers by which bytes are known again.
package sums

// Sum is the sum of some bytes, as a Zlib ends with it.
type Sum uint32

// NoSum is the sum of no bytes.
const NoSum Sum = 1

// The two halves of a sum are each counted up to this number.
const sumBound = 65521

// With is the sum of these bytes and of more behind them.
func (s Sum) With(more ...byte) Sum {
	a, b := s%65536, s/65536
	for _, next := range more {
		a = (a + Sum(next)) % sumBound
		b = (b + a) % sumBound
	}
	return 65536*b + a
}

// Check is the check of some bytes, as a Gzip has it; that of no bytes is 0.
type Check uint32

const checkPattern Check = 0xEDB88320

// With is the check of these bytes and of more behind them.
func (c Check) With(more ...byte) Check {
	// a check is turned over at its end: to go on, that is taken back
	c = ^c
	for _, next := range more {
		c ^= Check(next)
		for range 8 {
			c = c/2 ^ c%2*checkPattern
		}
	}
	return ^c
}
