package bare

import (
	"cmp"
	"slices"

	"bellows/api"
	"bellows/codes"
	"bellows/copies"
	"bellows/sink"
)

// toldPieces is how many pieces a block of type 2 has: the codes that suit them
// may not suit those behind them.
const toldPieces = 16384

// Pack packs bytes in one of the ways.
func Pack(way int, b []byte) []byte {
	switch way {
	case api.Stored:
		return packStored(b)
	case api.Fixed:
		return packFixed(copies.Find(b))
	default:
		return packBest(b)
	}
}

// packBest tries all types of blocks, of which none is the best one for all bytes.
func packBest(b []byte) []byte {
	pieces := copies.Find(b)
	tries := [][]byte{packStored(b), packFixed(pieces), packTold(pieces)}
	return slices.MinFunc(tries, func(one, other []byte) int {
		return cmp.Compare(len(one), len(other))
	})
}

func packStored(b []byte) []byte {
	to := &sink.Sink{}
	inBlocks(b, mostStored, func(part []byte, last bool) {
		storedBlock(to, part, last)
	})
	return to.Out()
}

func packFixed(pieces []copies.Piece) []byte {
	to := &sink.Sink{}
	writeHead(to, typeFixed, true)
	writePieces(to, pieces, newBooks(fixedLengths()))
	return to.Out()
}

func packTold(pieces []copies.Piece) []byte {
	to := &sink.Sink{}
	inBlocks(pieces, toldPieces, func(part []copies.Piece, last bool) {
		toldBlock(to, part, last)
	})
	return to.Out()
}

// inBlocks goes through a row in parts of at most so many; there is one even of
// an empty row, as one block has to be the last one.
func inBlocks[T any](row []T, most int, block func(part []T, last bool)) {
	for len(row) > most {
		block(row[:most], false)
		row = row[most:]
	}
	block(row, true)
}

func writeHead(to *sink.Sink, kind int, last bool) {
	bit := 0
	if last {
		bit = 1
	}
	to.Bit(bit)
	to.Number(kind, 2)
}

func storedBlock(to *sink.Sink, b []byte, last bool) {
	writeHead(to, typeStored, last)
	to.Fill()
	to.Number(len(b), 16)
	to.Number(mostStored-len(b), 16)
	to.Bytes(b...)
}

func toldBlock(to *sink.Sink, pieces []copies.Piece, last bool) {
	symbols, distances := suited(pieces)
	writeHead(to, typeTold, last)
	writeCoding(to, symbols, distances)
	writePieces(to, pieces, newBooks(symbols, distances))
}

// suited works out lengths with which these pieces take few bits.
func suited(pieces []copies.Piece) (symbols, distances []int) {
	ofSymbols := make([]int, api.Literals)
	ofDistances := make([]int, api.Distances)
	ofSymbols[endSymbol] = 1
	for _, piece := range pieces {
		if piece.Length == 0 {
			ofSymbols[piece.Byte]++
			continue
		}
		ofSymbols[lengthMark(piece.Length).symbol]++
		ofDistances[distanceMark(piece.Distance).symbol]++
	}
	return codes.Lengths(ofSymbols, api.MostBits), codes.Lengths(ofDistances, api.MostBits)
}

// books is the codes of a block, to write them.
type books struct{ symbols, distances codes.Book }

func newBooks(symbols, distances []int) books {
	return books{codes.NewBook(symbols), codes.NewBook(distances)}
}

// writePieces writes all that is in a block of symbols, its end too.
func writePieces(to *sink.Sink, pieces []copies.Piece, with books) {
	for _, piece := range pieces {
		if piece.Length == 0 {
			with.symbols.Write(to, int(piece.Byte))
			continue
		}
		lengthMark(piece.Length).write(to, with.symbols)
		distanceMark(piece.Distance).write(to, with.distances)
	}
	with.symbols.Write(to, endSymbol)
}

// writeCoding tells lengths: what readCoding reads.
func writeCoding(to *sink.Sink, symbols, distances []int) {
	symbols = told(symbols, leastSymbols)
	distances = told(distances, leastDistances)
	row := rowMarks(slices.Concat(symbols, distances))
	lengths := firstLengths(row)
	firsts := told(ordered(lengths), leastFirsts)
	to.Number(len(symbols)-leastSymbols, 5)
	to.Number(len(distances)-leastDistances, 5)
	to.Number(len(firsts)-leastFirsts, 4)
	for _, length := range firsts {
		to.Number(length, firstBits)
	}
	book := codes.NewBook(lengths)
	for _, next := range row {
		next.write(to, book)
	}
}

// told leaves out the noughts at the end of lengths, as far as they need not be told.
func told(lengths []int, least int) []int {
	end := len(lengths)
	for end > least && lengths[end-1] == 0 {
		end--
	}
	return lengths[:end]
}

// firstLengths works out lengths with which a row takes few bits.
func firstLengths(row []mark) []int {
	counts := make([]int, len(firstOrder))
	for _, next := range row {
		counts[next.symbol]++
	}
	return codes.Lengths(counts, 1<<firstBits-1)
}

// ordered brings the first lengths into the order in which they are told.
func ordered(lengths []int) []int {
	row := make([]int, len(firstOrder))
	for i, symbol := range firstOrder {
		row[i] = lengths[symbol]
	}
	return row
}
