package codes

import (
	"testing"

	"bellows/api"
	"bellows/feed"
	"bellows/sink"
)

// What a book writes, the table of the same lengths reads.
func TestWrittenCodesAreReadAgain(t *testing.T) {
	for _, lengths := range [][]int{
		{1},
		{0, 0, 1},
		{1, 1},
		{3, 3, 3, 3, 3, 2, 4, 4},
		{1, 2, 3, 4, 5, 6, 7, 8, 9, 10, 11, 12, 13, 14, 15, 15},
		{0, 2, 0, 2, 2, 0, 3, 3},
	} {
		to := &sink.Sink{}
		book := NewBook(lengths)
		for symbol, length := range lengths {
			if length > 0 {
				book.Write(to, symbol)
			}
		}
		table, err := Deal(lengths)
		if err != api.OK {
			t.Fatalf("P5: %v: %d", lengths, err)
		}
		from := feed.New(to.Out())
		for symbol, length := range lengths {
			if length == 0 {
				continue
			}
			if got, err := table.Read(from); got != symbol || err != api.OK {
				t.Errorf("P9: %v: symbol %d is read as %d, %d", lengths, symbol, got, err)
			}
		}
	}
}

// The codes of RFC 1951, 3.2.2: A to H of 3, 3, 3, 3, 3, 2, 4, 4 bits.
func TestCodesAreWrittenFromTheHighestBitOn(t *testing.T) {
	book := NewBook([]int{3, 3, 3, 3, 3, 2, 4, 4})
	for symbol, want := range []byte{0b010, 0b110, 0b001, 0b101, 0b011, 0b00, 0b0111, 0b1111} {
		to := &sink.Sink{}
		book.Write(to, symbol)
		if got := to.Out(); len(got) != 1 || got[0] != want {
			t.Errorf("P9: symbol %d is written as %b", symbol, got)
		}
	}
}
