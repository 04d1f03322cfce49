package bare

import (
	"slices"

	"bellows/api"
	"bellows/codes"
	"bellows/feed"
)

// coding is the codes of a block.
type coding struct {
	symbols   codes.Table
	distances codes.Table
}

// firstOrder is the order in which the first lengths are told.
var firstOrder = [19]int{16, 17, 18, 0, 8, 7, 9, 6, 10, 5, 11, 4, 12, 3, 13, 2, 14, 1, 15}

// repetition is a symbol of a row that is no length: how often the length that
// it means comes at least, and how many bits tell how much oftener.
type repetition struct{ symbol, least, bits int }

var (
	again = repetition{16, 3, 2}  // of the length ahead
	few   = repetition{17, 3, 3}  // of 0
	many  = repetition{18, 11, 7} // of 0
)

// How much of each is told at least, and in how many bits a first length is.
const (
	leastSymbols   = 257
	leastDistances = 1
	leastFirsts    = 4
	firstBits      = 3
)

func fixedCoding() *coding {
	ofSymbols, ofDistances := fixedLengths()
	// these lengths are known to be such as may be
	symbols, _ := codes.Deal(ofSymbols)
	distances, _ := codes.Deal(ofDistances)
	return &coding{symbols: symbols, distances: distances}
}

func fixedLengths() (symbols, distances []int) {
	symbols = slices.Concat(
		slices.Repeat([]int{8}, 144),
		slices.Repeat([]int{9}, 112),
		slices.Repeat([]int{7}, 24),
		slices.Repeat([]int{8}, 8),
	)
	return symbols, slices.Repeat([]int{5}, 32)
}

// readCoding reads the codes that a block of type 2 tells.
func readCoding(from *feed.Feed) (coding, api.Errno) {
	symbols := from.Number(5) + leastSymbols
	distances := from.Number(5) + leastDistances
	firsts := from.Number(4) + leastFirsts
	if symbols > api.Literals || distances > api.Distances {
		return coding{}, api.ErrCodes
	}
	table, err := readFirsts(from, firsts)
	if err != api.OK {
		return coding{}, err
	}
	row, err := readRow(from, table, symbols+distances)
	if err != api.OK {
		return coding{}, err
	}
	return dealRow(row[:symbols], row[symbols:])
}

func readFirsts(from *feed.Feed, count int) (codes.Table, api.Errno) {
	var lengths [len(firstOrder)]int
	for i := range count {
		lengths[firstOrder[i]] = from.Number(firstBits)
	}
	return codes.Deal(lengths[:])
}

// readRow reads the lengths of the symbols and of the distances in one row, as
// a repetition may begin among those and end among these.
func readRow(from *feed.Feed, table codes.Table, size int) ([]int, api.Errno) {
	row := make([]int, 0, size)
	for len(row) < size {
		symbol, err := table.Read(from)
		if err != api.OK {
			return nil, err
		}
		// ahead of its number of bits: that there is none ahead does not hang on it
		if symbol == again.symbol && len(row) == 0 {
			return nil, api.ErrRepeat
		}
		length, times := readLengths(from, symbol, row)
		if len(row)+times > size {
			return nil, api.ErrRepeat
		}
		for range times {
			row = append(row, length)
		}
	}
	return row, api.OK
}

// readLengths tells which length comes next behind a row, and how often.
func readLengths(from *feed.Feed, symbol int, row []int) (length, times int) {
	switch symbol {
	case again.symbol:
		return row[len(row)-1], again.readTimes(from)
	case few.symbol:
		return 0, few.readTimes(from)
	case many.symbol:
		return 0, many.readTimes(from)
	default:
		return symbol, 1
	}
}

func (r repetition) readTimes(from *feed.Feed) int {
	return r.least + from.Number(r.bits)
}

func dealRow(symbols, distances []int) (coding, api.Errno) {
	if symbols[endSymbol] == 0 {
		return coding{}, api.ErrCodes
	}
	ofSymbols, err := codes.Deal(symbols)
	if err != api.OK {
		return coding{}, err
	}
	ofDistances, err := codes.DealDistances(distances)
	if err != api.OK {
		return coding{}, err
	}
	return coding{symbols: ofSymbols, distances: ofDistances}, api.OK
}
