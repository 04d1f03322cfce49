package bellows_test

import "slices"

// writer writes bits as bellows reads them.
type writer struct {
	out []byte
	at  int
}

func (w *writer) bit(bit int) {
	if w.at%8 == 0 {
		w.out = append(w.out, 0)
	}
	w.out[w.at/8] |= byte(bit) << (w.at % 8)
	w.at++
}

// number writes a number, the lowest bit first.
func (w *writer) number(x, bits int) *writer {
	for i := range bits {
		w.bit(x >> i & 1)
	}
	return w
}

// code writes codes, given as text, the highest bit first.
func (w *writer) code(codes ...string) *writer {
	for _, code := range codes {
		for _, c := range code {
			w.bit(int(c - '0'))
		}
	}
	return w
}

// block begins a block.
func (w *writer) block(last bool, kind int) *writer {
	if last {
		return w.number(1, 1).number(kind, 2)
	}
	return w.number(0, 1).number(kind, 2)
}

// stored writes a whole block of type 0.
func (w *writer) stored(last bool, b []byte) *writer {
	w.block(last, 0)
	w.at = len(w.out) * 8
	w.number(len(b), 16).number(65535-len(b), 16)
	w.out = append(w.out, b...)
	w.at = len(w.out) * 8
	return w
}

// symbols writes symbols by the fixed codes, as the table of RFC 1951, 3.2.6 has them.
func (w *writer) symbols(symbols ...int) *writer {
	for _, s := range symbols {
		switch {
		case s < 144:
			w.code(binary(0b00110000+s, 8))
		case s < 256:
			w.code(binary(0b110010000+s-144, 9))
		case s < 280:
			w.code(binary(s-256, 7))
		default:
			w.code(binary(0b11000000+s-280, 8))
		}
	}
	return w
}

// text writes the symbols of bytes by the fixed codes.
func (w *writer) text(s string) *writer {
	for _, b := range []byte(s) {
		w.symbols(int(b))
	}
	return w
}

// copies writes a length and a distance by the fixed codes.
func (w *writer) copies(length, distance int) *writer {
	symbol, bits, rest := find(lengthRows(), length)
	w.symbols(257+symbol).number(rest, bits)
	return w.distance(distance)
}

// distance writes a distance by the fixed codes.
func (w *writer) distance(distance int) *writer {
	symbol, bits, rest := find(distanceRows(), distance)
	return w.code(binary(symbol, 5)).number(rest, bits)
}

func binary(x, bits int) string {
	var text []byte
	for i := bits - 1; i >= 0; i-- {
		text = append(text, byte('0'+x>>i&1))
	}
	return string(text)
}

// row: the least value of a symbol, and how many bits follow it.
type row struct{ least, bits int }

// lengthRows: the table of RFC 1951, 3.2.5, from symbol 257 on.
func lengthRows() []row {
	return []row{
		{3, 0}, {4, 0}, {5, 0}, {6, 0}, {7, 0}, {8, 0}, {9, 0}, {10, 0},
		{11, 1}, {13, 1}, {15, 1}, {17, 1}, {19, 2}, {23, 2}, {27, 2}, {31, 2},
		{35, 3}, {43, 3}, {51, 3}, {59, 3}, {67, 4}, {83, 4}, {99, 4}, {115, 4},
		{131, 5}, {163, 5}, {195, 5}, {227, 5}, {258, 0},
	}
}

// distanceRows: the table of RFC 1951, 3.2.5, from distance 0 on.
func distanceRows() []row {
	return []row{
		{1, 0}, {2, 0}, {3, 0}, {4, 0}, {5, 1}, {7, 1}, {9, 2}, {13, 2}, {17, 3}, {25, 3},
		{33, 4}, {49, 4}, {65, 5}, {97, 5}, {129, 6}, {193, 6}, {257, 7}, {385, 7}, {513, 8}, {769, 8},
		{1025, 9}, {1537, 9}, {2049, 10}, {3073, 10}, {4097, 11}, {6145, 11}, {8193, 12}, {12289, 12},
		{16385, 13}, {24577, 13},
	}
}

// find tells which row a value belongs to, how many bits follow, and what they say.
func find(rows []row, value int) (symbol, bits, rest int) {
	for i, r := range slices.Backward(rows) {
		if r.least <= value {
			return i, r.bits, value - r.least
		}
	}
	panic("no such value")
}

// copied is what copies put out behind what is there, byte by byte.
func copied(out []byte, length, distance int) []byte {
	for range length {
		out = append(out, out[len(out)-distance])
	}
	return out
}
