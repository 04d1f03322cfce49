// Package codes deals out codes to symbols, reads them and writes them.
package codes

import (
	"iter"
	"math/bits"

	"bellows/api"
	"bellows/feed"
)

// key is a code's bits behind a bit of value 1, so that codes of different
// lengths have different keys although their bits are the same number.
type key uint32

// noBits is the key of a code of which nothing was read.
const noBits key = 1

func (k key) length() int {
	return bits.Len32(uint32(k)) - 1
}

// Table finds symbols by their codes.
type Table struct {
	symbols map[key]int
	longest int
}

// Deal deals out codes by the symbols' lengths: ErrCodes, if these may not be.
func Deal(lengths []int) (Table, api.Errno) {
	if !mayBe(lengths) {
		return Table{}, api.ErrCodes
	}
	return deal(lengths), api.OK
}

// DealDistances is Deal for the lengths of distances, which may all be 0.
func DealDistances(lengths []int) (Table, api.Errno) {
	if count, _ := weigh(lengths); count == 0 {
		return Table{}, api.OK
	}
	return Deal(lengths)
}

// whole is the weight of all codes together if they fill all.
const whole = 1 << api.MostBits

// mayBe tells whether the codes fill all, or are the single one of one bit.
func mayBe(lengths []int) bool {
	count, weight := weigh(lengths)
	return weight == whole || count == 1 && weight == whole/2
}

// weigh tells how many symbols have a code, and the sum of their shares.
func weigh(lengths []int) (count, weight int) {
	for _, length := range lengths {
		if length > 0 {
			count++
			weight += whole >> length
		}
	}
	return count, weight
}

func deal(lengths []int) Table {
	table := Table{symbols: map[key]int{}}
	for code, symbol := range dealt(lengths) {
		table.symbols[code] = symbol
		table.longest = code.length()
	}
	return table
}

// dealt goes through the codes and their symbols, the shortest codes first.
func dealt(lengths []int) iter.Seq2[key, int] {
	return func(give func(key, int) bool) {
		next := noBits
		for length := 1; length <= api.MostBits; length++ {
			next <<= 1
			for symbol, own := range lengths {
				if own != length {
					continue
				}
				if !give(next, symbol) {
					return
				}
				next++
			}
		}
	}
}

// Read reads a code: its symbol, or ErrSymbol as soon as it can be none.
//
// Codes that were dealt out fill all, but for a single one of one bit: so the
// bits lead nowhere only when they are as many as the longest code has.
func (t Table) Read(from *feed.Feed) (int, api.Errno) {
	code := noBits
	for range t.longest {
		code = code<<1 | key(from.Bit())
		if symbol, found := t.symbols[code]; found {
			return symbol, api.OK
		}
	}
	return 0, api.ErrSymbol
}
