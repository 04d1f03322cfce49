package bellows_test

import (
	"math/rand"
	"slices"
	"strings"
	"testing"

	"bellows/api"
)

// tellHead writes how many symbols, distances and first lengths there are, and these.
func tellHead(w *writer, symbols, distances int, firsts ...int) *writer {
	w.number(symbols-257, 5).number(distances-1, 5).number(len(firsts)-4, 4)
	for _, n := range firsts {
		w.number(n, 3)
	}
	return w
}

// someFirsts: 0 has "00", 1 "01", 2 "100", 3 "101", 18 "110", 16 "1110", 17 "1111".
func someFirsts() []int {
	//         16 17 18 0  8  7  9  6  10 5  11 4  12 3  13 2  14 1
	return []int{4, 4, 3, 2, 0, 0, 0, 0, 0, 0, 0, 0, 0, 3, 0, 3, 0, 2}
}

// tellLengths writes lengths from 0 to 3, each by itself, by the codes of someFirsts.
func tellLengths(w *writer, lengths ...int) *writer {
	for _, n := range lengths {
		w.code([]string{"00", "01", "100", "101"}[n])
	}
	return w
}

// noughts writes at least 11 noughts, by 18.
func noughts(w *writer, n int) *writer {
	for ; n > 138+11; n -= 138 {
		w.code("110").number(127, 7)
	}
	if n > 138 {
		w.code("110").number(0, 7)
		n -= 11
	}
	return w.code("110").number(n-11, 7)
}

// tellSmall tells the codes a "0", b "10", 256 "110", 257 "111", and of the distance 0 "0".
func tellSmall(w *writer) *writer {
	tellHead(w, 258, 1, someFirsts()...)
	noughts(w, 97)
	tellLengths(w, 1, 2)
	noughts(w, 256-99)
	return tellLengths(w, 3, 3, 1)
}

// small begins a last block, with the lengths of a, b, 256 and 257, and of two distances.
func small(a, b, end, copies, d0, d1 int) *writer {
	w := tellHead((&writer{}).block(true, 2), 258, 2, someFirsts()...)
	noughts(w, 97)
	tellLengths(w, a, b)
	noughts(w, 256-99)
	return tellLengths(w, end, copies, d0, d1)
}

func TestToldCodes(t *testing.T) {
	for i, c := range []struct {
		w   *writer
		err api.Errno
		out string
	}{
		// a "0", b "10", 256 "110", 257 "111"
		{small(1, 2, 3, 3, 1, 0).code("0", "10", "0", "110"), api.OK, "aba"},
		{small(1, 2, 3, 3, 1, 0).code("0", "111", "0", "110"), api.OK, "aaaa"},
		{small(1, 2, 3, 3, 1, 1).code("0", "10", "111", "1", "110"), api.OK, "ababa"},
		{small(1, 2, 3, 3, 0, 1).code("0", "10", "111", "0", "110"), api.OK, "ababa"},
		// the single distance has the code "0"
		{small(1, 2, 3, 3, 1, 0).code("0", "111", "1"), api.ErrSymbol, "a"},
		// no distance has a code
		{small(1, 2, 3, 3, 0, 0).code("0", "10", "110"), api.OK, "ab"},
		{small(1, 2, 3, 3, 0, 0).code("0", "111"), api.ErrSymbol, "a"},
		// by rising symbols: 256 ahead of 257, a ahead of b
		{small(2, 2, 2, 2, 1, 1).code("00", "01", "11", "1", "10"), api.OK, "ababa"},
		// shorter ones first: 257 "0", 256 "10", a "110", b "111"
		{small(3, 3, 2, 1, 1, 1).code("111", "110", "0", "1", "10"), api.OK, "babab"},
		// just one symbol, of one bit
		{small(0, 0, 1, 0, 0, 0).code("0"), api.OK, ""},
		{small(0, 0, 1, 0, 0, 0).code("1"), api.ErrSymbol, ""},
		{small(0, 0, 1, 0, 1, 0).code("0"), api.OK, ""},
		{small(0, 0, 2, 0, 0, 0).code("00"), api.ErrCodes, ""},
		// symbol 256 has none
		{small(1, 1, 0, 0, 1, 0), api.ErrCodes, ""},
		{small(0, 1, 0, 0, 1, 0), api.ErrCodes, ""},
		{small(0, 0, 0, 0, 0, 0), api.ErrCodes, ""},
		// too few, too many
		{small(1, 2, 3, 0, 1, 0), api.ErrCodes, ""},
		{small(1, 1, 3, 0, 1, 0), api.ErrCodes, ""},
		{small(1, 1, 1, 0, 1, 0), api.ErrCodes, ""},
		{small(1, 2, 3, 3, 2, 0), api.ErrCodes, ""},
		{small(1, 2, 3, 3, 2, 2), api.ErrCodes, ""},
		{small(1, 2, 3, 3, 1, 2), api.ErrCodes, ""},
	} {
		t.Logf("case %d", i)
		expect(t, "P5", c.w.out, 99, c.err, c.out)
	}
}

func TestTooManyTold(t *testing.T) {
	for _, c := range []struct {
		symbols, distances int
		err                api.Errno
	}{{286, 30, api.ErrEnd}, {287, 1, api.ErrCodes}, {288, 30, api.ErrCodes}, {257, 31, api.ErrCodes}, {286, 32, api.ErrCodes}} {
		w := (&writer{}).block(true, 2).number(c.symbols-257, 5).number(c.distances-1, 5).number(15, 4)
		expect(t, "P5", w.out, 9, c.err, "")
	}
	// that there are too many is told behind all three numbers
	expect(t, "P5", (&writer{}).block(true, 2).number(31, 5).out, 9, api.ErrEnd, "")
}

func TestFirstLengths(t *testing.T) {
	for _, c := range []struct {
		firsts []int
		err    api.Errno // with the noughts that fill the last byte behind them
	}{
		{[]int{0, 0, 0, 0}, api.ErrCodes},
		{[]int{1, 1, 1, 0}, api.ErrCodes},
		{[]int{0, 0, 2, 0}, api.ErrCodes},
		{[]int{0, 2, 2, 0}, api.ErrCodes},
		{[]int{1, 2, 7, 7}, api.ErrCodes},
		{[]int{0, 0, 1, 0}, api.ErrEnd},                // 18, and no number
		{[]int{0, 1, 1, 0}, api.ErrEnd},                // 17, and half a number
		{[]int{1, 1, 0, 0}, api.ErrRepeat},             // 16
		{[]int{1, 2, 3, 4, 5, 6, 7, 7}, api.ErrRepeat}, // 16
	} {
		w := tellHead((&writer{}).block(true, 2), 257, 1, c.firsts...)
		expect(t, "P5", w.out, 9, c.err, "")
	}
	single := tellHead((&writer{}).block(true, 2), 257, 1, 0, 0, 1, 0)
	expect(t, "P5", single.code("1").out, 9, api.ErrSymbol, "")
}

// first begins a last block with 257 symbols and one distance.
func first() *writer {
	return tellHead((&writer{}).block(true, 2), 257, 1, someFirsts()...)
}

func TestRepetitions(t *testing.T) {
	for i, c := range []struct {
		w   *writer
		err api.Errno
		out string
	}{
		// 253 noughts, 2, by 16 three times more: the codes of 253 to 256
		{tellLengths(noughts(first(), 252), 0, 2).code("1110").number(0, 2).code("01", "00", "01", "10", "11"), api.OK, "\xfd\xfe\xff"},
		// 249 noughts, 3, by 16 six times more, and one more: the codes of 249 to 256
		{tellLengths(tellLengths(noughts(first(), 248), 0, 3).code("1110").number(3, 2), 3, 0).code("000", "110", "111"), api.OK, "\xf9\xff"},
		// noughts by 17: ten and three
		{tellLengths(tellLengths(noughts(first(), 242), 1).code("1111").number(7, 3).code("1111").number(0, 3), 1, 0).code("0", "1"), api.OK, "\xf2"},
		// noughts by 18: 138 and 11
		{tellLengths(tellLengths(first(), slices.Repeat([]int{0}, 106)...).code("110").number(127, 7), 1).code("110").number(0, 7).code("01", "00", "0", "1"), api.OK, "\xf4"},
		// from the symbols into the distances
		{tellLengths(noughts(first(), 255), 1).code("1110").number(0, 2), api.ErrRepeat, ""},
		// nothing ahead
		{first().code("1110").number(0, 2), api.ErrRepeat, ""},
		// beyond the row
		{noughts(first(), 256).code("1110").number(0, 2), api.ErrRepeat, ""},
		{noughts(first(), 256).code("1111").number(0, 3), api.ErrRepeat, ""},
		{noughts(first(), 248).code("110").number(0, 7), api.ErrRepeat, ""},
		{noughts(first(), 120).code("110").number(127, 7), api.ErrCodes, ""},
		{noughts(first(), 121).code("110").number(127, 7), api.ErrRepeat, ""},
	} {
		t.Logf("case %d", i)
		expect(t, "P5", c.w.out, 9, c.err, c.out)
	}
}

// A repetition may begin among the symbols and end among the distances.
func TestRepetitionIntoDistances(t *testing.T) {
	w := tellHead((&writer{}).block(true, 2), 257, 3, someFirsts()...)
	tellLengths(noughts(w, 253), 2, 2, 2).code("1110").number(0, 2).code("00", "11")
	// 253 to 256 have 2, the distances 0 and 1 as well: these do not fill all
	expect(t, "P5", w.out, 9, api.ErrCodes, "")
	w = tellHead((&writer{}).block(true, 2), 258, 2, someFirsts()...)
	tellLengths(noughts(w, 256), 1).code("1110").number(0, 2).code("0")
	// 256 and 257 have 1, the distances too
	expect(t, "P5", w.out, 9, api.OK, "")
}

// That none is ahead does not hang on how often; that it goes beyond the row does.
func TestRepetitionsWithoutTheirNumbers(t *testing.T) {
	// 18 "0", 16 "10", 17 "11": one bit is left
	w := tellHead((&writer{}).block(true, 2), 257, 1, 2, 2, 1, 0).code("10")
	expect(t, "P5", w.out, 9, api.ErrRepeat, "")
	// 18 "0", 17 "1": 257 noughts, and 17 without all of its number
	w = tellHead((&writer{}).block(true, 2), 257, 1, 0, 1, 1, 0)
	w.code("1").number(127, 7).code("1").number(108, 7).code("0")
	expect(t, "P5", w.out, 9, api.ErrEnd, "")
}

// splitLengths makes lengths that fill all, for so many symbols.
func splitLengths(source *rand.Rand, symbols int) []int {
	lengths := []int{0}
	for len(lengths) < symbols {
		i := source.Intn(len(lengths))
		if source.Intn(3) == 0 {
			i = len(lengths) - 1
		}
		if lengths[i] == 15 {
			continue
		}
		lengths[i]++
		lengths = append(lengths, lengths[i])
	}
	source.Shuffle(symbols, func(i, j int) { lengths[i], lengths[j] = lengths[j], lengths[i] })
	return lengths
}

// dealt deals out codes as texts: the place of each one, as a share of all, is
// the sum of the shares ahead of it.
func dealt(lengths []int) []string {
	texts := make([]string, len(lengths))
	place := 0
	for length := 1; length <= 15; length++ {
		for symbol, own := range lengths {
			if own == length {
				texts[symbol] = binary(place>>(15-length), length)
				place += 1 << (15 - length)
			}
		}
	}
	return texts
}

// tellAll tells lengths of all symbols, each by itself: 0 to 12 have first codes of four bits,
// 13 to 18 of five.
func tellAll(w *writer, symbols, distances []int) *writer {
	var firsts []int
	for _, symbol := range []int{16, 17, 18, 0, 8, 7, 9, 6, 10, 5, 11, 4, 12, 3, 13, 2, 14, 1, 15} {
		firsts = append(firsts, 4+symbol/13)
	}
	tellHead(w, len(symbols), len(distances), firsts...)
	for _, n := range slices.Concat(symbols, distances) {
		if n < 13 {
			w.code(binary(n, 4))
		} else {
			w.code(binary(0b11010+n-13, 5))
		}
	}
	return w
}

func TestFullTables(t *testing.T) {
	source := rand.New(rand.NewSource(5))
	longest := 0
	for range 40 {
		symbols, distances := splitLengths(source, 286), splitLengths(source, 30)
		longest = max(longest, slices.Max(symbols))
		w := tellAll((&writer{}).block(true, 2), symbols, distances)
		ofSymbols, ofDistances := dealt(symbols), dealt(distances)
		var out []byte
		for _, i := range source.Perm(256) {
			w.code(ofSymbols[i])
			out = append(out, byte(i))
		}
		for range 200 {
			length, distance := 3+source.Intn(256), 1+source.Intn(min(len(out), 32768))
			symbol, bits, rest := find(lengthRows(), length)
			w.code(ofSymbols[257+symbol]).number(rest, bits)
			symbol, bits, rest = find(distanceRows(), distance)
			w.code(ofDistances[symbol]).number(rest, bits)
			out = copied(out, length, distance)
		}
		expect(t, "P5", w.code(ofSymbols[256]).out, len(out), api.OK, string(out))
	}
	if longest != 15 {
		t.Errorf("no code of 15 bits was tried: %d", longest)
	}
}

// The codes of a block are forgotten with it.
func TestEachBlockHasItsOwnCodes(t *testing.T) {
	w := &writer{}
	for range 3 {
		tellSmall(w.block(false, 2)).code("0", "10", "110")
		w.block(false, 1).text("xy").symbols(256)
		tellAll(w.block(false, 2), slices.Concat(slices.Repeat([]int{8}, 255), []int{9, 9}), []int{0})
		w.code(binary('q', 8), binary(510, 9), binary(511, 9))
	}
	expect(t, "P5", w.stored(true, nil).out, 99, api.OK, strings.Repeat("abxyq\xff", 3))
}
