package codes

import (
	"cmp"
	"slices"
)

// parcel is some symbols, one of them perhaps more than once, and how often
// they come in all.
type parcel struct {
	count   int
	symbols []int
}

// Lengths works out lengths for symbols that come so often each, of which none
// is above most: such as may be, and with which all take as few bits as can be.
//
// Each parcel of two is one bit for each symbol in it: so often as a symbol is
// in the parcels that come least often, so long is its code.
func Lengths(counts []int, most int) []int {
	lengths := make([]int, len(counts))
	singles := single(counts)
	if len(singles) == 1 {
		lengths[singles[0].symbols[0]] = 1
	}
	if len(singles) < 2 {
		return lengths
	}
	var row []parcel
	for range most {
		row = sorted(singles, paired(row))
	}
	for _, p := range row[:2*len(singles)-2] {
		for _, symbol := range p.symbols {
			lengths[symbol]++
		}
	}
	return lengths
}

// single makes a parcel of each symbol that comes at all.
func single(counts []int) []parcel {
	var row []parcel
	for symbol, count := range counts {
		if count > 0 {
			row = append(row, parcel{count, []int{symbol}})
		}
	}
	return row
}

// paired makes parcels of two out of a row; one that is left over is dropped.
func paired(row []parcel) []parcel {
	var pairs []parcel
	for i := 0; i+1 < len(row); i += 2 {
		a, b := row[i], row[i+1]
		pairs = append(pairs, parcel{a.count + b.count, slices.Concat(a.symbols, b.symbols)})
	}
	return pairs
}

// sorted lays parcels into one row, those that come least often first.
func sorted(singles, pairs []parcel) []parcel {
	row := slices.Concat(singles, pairs)
	slices.SortStableFunc(row, func(a, b parcel) int {
		return cmp.Compare(a.count, b.count)
	})
	return row
}
