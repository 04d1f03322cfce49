package bare

import (
	"math/bits"

	"bellows/codes"
	"bellows/copies"
	"bellows/sink"
)

// mark is a symbol, and the number of so many bits that belongs to it.
type mark struct{ symbol, number, bits int }

func (m mark) write(to *sink.Sink, book codes.Book) {
	book.Write(to, m.symbol)
	to.Number(m.number, m.bits)
}

// lengthMark is what readLength reads.
func lengthMark(length int) mark {
	above := length - copies.Shortest
	switch {
	case length == copies.Longest:
		return mark{symbol: lastLength}
	case above < firstWithBits-firstLength:
		return mark{symbol: firstLength + above}
	}
	// of a length the highest bit and the two behind it make the symbol
	low := bits.Len(uint(above)) - 3
	return mark{firstWithBits + 4*(low-1) + above>>low - 4, above % (1 << low), low}
}

// distanceMark is what readDistance reads.
func distanceMark(distance int) mark {
	above := distance - 1
	if above < 4 {
		return mark{symbol: above}
	}
	// of a distance the highest bit and the one behind it make the symbol
	low := bits.Len(uint(above)) - 2
	return mark{2*(low+1) + above>>low - 2, above % (1 << low), low}
}

// rowMarks tells a row of lengths in few symbols: what readRow reads.
func rowMarks(row []int) []mark {
	var marks []mark
	for at := 0; at < len(row); {
		next, times := rowMark(row, at)
		marks = append(marks, next)
		at += times
	}
	return marks
}

// rowMark tells the lengths at a place of a row, and how many of them.
func rowMark(row []int, at int) (mark, int) {
	same := alike(row[at:])
	switch {
	case row[at] == 0 && same >= many.least:
		return many.mark(same)
	case row[at] == 0 && same >= few.least:
		return few.mark(same)
	case at > 0 && row[at] == row[at-1] && same >= again.least:
		return again.mark(same)
	default:
		return mark{symbol: row[at]}, 1
	}
}

// mark tells as much of so many lengths as can be told at once.
func (r repetition) mark(same int) (mark, int) {
	times := min(same, r.least+1<<r.bits-1)
	return mark{r.symbol, times - r.least, r.bits}, times
}

// alike counts how many lengths are the same as the first one, that among them.
func alike(row []int) int {
	for i, length := range row {
		if length != row[0] {
			return i
		}
	}
	return len(row)
}
