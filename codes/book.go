package codes

import "bellows/sink"

// Book has the codes of symbols, by the symbols, to write them.
type Book []key

// NewBook deals out codes by the symbols' lengths, which must be such as may be.
func NewBook(lengths []int) Book {
	book := make(Book, len(lengths))
	for code, symbol := range dealt(lengths) {
		book[symbol] = code
	}
	return book
}

// Write writes the code of a symbol that has one, its highest bit first.
func (b Book) Write(to *sink.Sink, symbol int) {
	code := b[symbol]
	for i := code.length() - 1; i >= 0; i-- {
		to.Bit(int(code >> i & 1))
	}
}
