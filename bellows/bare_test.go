package bellows_test

import (
	"math/rand"
	"strings"
	"testing"

	"bellows/api"
)

func TestExamplesOfTheDocument(t *testing.T) {
	for _, c := range []struct {
		b    string
		most int
		err  api.Errno
		out  string
	}{
		{"4b 04 00", 9, api.OK, "a"},
		{"01 01 00 fe ff 61", 9, api.OK, "a"},
		{"01 01 00 fe fe 61", 9, api.ErrStored, ""},
		{"07", 9, api.ErrBlock, ""},
		{"4b 04", 9, api.ErrEnd, "a"},
		{"4b 04 00", 0, api.ErrMuch, ""},
		{"03 00", 9, api.OK, ""},
		{"03 02", 9, api.ErrFar, ""},
	} {
		expect(t, "P4", fromHex(t, c.b), c.most, c.err, c.out)
	}
}

func TestBlocks(t *testing.T) {
	good, out := mixed()
	expect(t, "P4", good, 1000, api.OK, out)
	for _, c := range []struct {
		b   []byte
		err api.Errno
	}{
		{nil, api.ErrEnd},
		{(&writer{}).block(true, 3).out, api.ErrBlock},
		{(&writer{}).block(false, 3).out, api.ErrBlock},
		{(&writer{}).block(false, 1).symbols(256).block(true, 3).out, api.ErrBlock},
		{(&writer{}).block(false, 1).symbols(256).out, api.ErrEnd},
		{(&writer{}).stored(false, nil).out, api.ErrEnd},
		{(&writer{}).stored(false, nil).stored(true, nil).out, api.OK},
	} {
		expect(t, "P4", c.b, 9, c.err, "")
	}
}

func TestEveryPieceOfMixedBlocks(t *testing.T) {
	good, out := mixed()
	// three bits of head and four bytes ahead of the first stored byte
	for n, want := range map[int]string{0: "", 5: "", 6: "h", 11: "hello,", 12: "hello, "} {
		expect(t, "P4", good[:n], 1000, api.ErrEnd, want)
	}
	expect(t, "P4", good[:len(good)-1], 1000, api.ErrEnd, out)
}

func TestStored(t *testing.T) {
	long := make([]byte, 65535)
	rand.New(rand.NewSource(2)).Read(long)
	expect(t, "P4", (&writer{}).stored(true, long).out, 65535, api.OK, string(long))
	expect(t, "P4", (&writer{}).stored(false, long).stored(true, long[:9]).out, 70000, api.OK, string(long)+string(long[:9]))
	for _, c := range []struct {
		b    string
		most int
		err  api.Errno
		out  string
	}{
		{"f9 01 00 fe ff 61", 9, api.OK, "a"},          // what is passed over does not matter
		{"01 01 00 ff fe 61", 9, api.ErrStored, ""},    // told twice, but not the other way round
		{"01 01 00 01 00 61", 9, api.ErrStored, ""},    // told twice the same way
		{"01 01 00 fe ff", 9, api.ErrEnd, ""},          // no byte
		{"01 01 00 fe ff", 0, api.ErrEnd, ""},          // what is not there is not too much
		{"01 02 00 fd ff 61", 9, api.ErrEnd, "a"},      // one byte of two
		{"01 02 00 fd ff 61", 1, api.ErrEnd, "a"},      // the second one is not there
		{"01 02 00 fd ff 61 62", 1, api.ErrMuch, "a"},  // the second one is too much
		{"01 01 00 ff", 9, api.ErrEnd, ""},             // half a word
		{"01 01", 9, api.ErrEnd, ""},                   // half a word
		{"01", 9, api.ErrEnd, ""},                      // no word
		{"01 00 01 ff fe", 999, api.ErrEnd, ""},        // the lowest byte first: 256 bytes
		{"00 01 00 fe ff 61 07", 9, api.ErrBlock, "a"}, // what is ahead was put out
	} {
		expect(t, "P4", fromHex(t, c.b), c.most, c.err, c.out)
	}
}

func TestFixedBytes(t *testing.T) {
	w := (&writer{}).block(true, 1)
	var all []byte
	for i := range 256 {
		w.symbols(i)
		all = append(all, byte(i))
	}
	expect(t, "P4", w.symbols(256).out, 256, api.OK, string(all))
}

func TestFixedSymbolsThatMeanNothing(t *testing.T) {
	for _, symbol := range []int{286, 287} {
		expect(t, "P4", (&writer{}).block(true, 1).text("a").symbols(symbol).out, 9, api.ErrSymbol, "a")
	}
	for _, distance := range []int{30, 31} {
		w := (&writer{}).block(true, 1).text("a").symbols(257).code(binary(distance, 5))
		expect(t, "P4", w.out, 9, api.ErrSymbol, "a")
	}
}

func TestEveryLength(t *testing.T) {
	for length := 3; length <= 258; length++ {
		for _, distance := range []int{1, 2, 3, 7} {
			w := (&writer{}).block(true, 1).text("abcdefg").copies(length, distance).text("!").symbols(256)
			out := append(copied([]byte("abcdefg"), length, distance), '!')
			expect(t, "P4", w.out, 999, api.OK, string(out))
		}
	}
	// 258 by the symbol ahead of its own
	w := (&writer{}).block(true, 1).text("a").symbols(284).number(31, 5).distance(1).symbols(256)
	expect(t, "P4", w.out, 999, api.OK, strings.Repeat("a", 259))
}

func TestEveryDistance(t *testing.T) {
	out := make([]byte, 32768)
	rand.New(rand.NewSource(3)).Read(out)
	w := (&writer{}).stored(false, out).block(true, 1)
	for distance := 1; distance <= 32768; distance++ {
		length := 3 + distance%8
		w.copies(length, distance)
		out = copied(out, length, distance)
	}
	expect(t, "P4", w.symbols(256).out, len(out), api.OK, string(out))
}

func TestTooFar(t *testing.T) {
	for _, there := range []int{0, 1, 2, 3, 4, 5, 100, 257, 32767} {
		out := make([]byte, there)
		rand.New(rand.NewSource(4)).Read(out)
		w := (&writer{}).stored(false, out).block(true, 1)
		expect(t, "P4", w.copies(9, there+1).out, 40000, api.ErrFar, string(out))
		if there > 0 {
			w := (&writer{}).stored(false, out).block(true, 1).copies(9, there).symbols(256)
			expect(t, "P4", w.out, 40000, api.OK, string(copied(out, 9, there)))
		}
	}
}

func TestOrderOfErrorsInCopies(t *testing.T) {
	begin := func() *writer { return (&writer{}).block(true, 1).text("a") }
	// too far, and nothing more was asked for
	expect(t, "P4", begin().copies(3, 2).out, 1, api.ErrFar, "a")
	// a copy that ends beyond what was asked for
	expect(t, "P4", begin().copies(258, 1).out, 100, api.ErrMuch, strings.Repeat("a", 100))
	expect(t, "P4", begin().copies(4, 1).symbols(256).out, 5, api.OK, "aaaaa")
	expect(t, "P4", begin().copies(4, 1).symbols(256).out, 4, api.ErrMuch, "aaaa")
	// a copy whose distance is not there puts nothing out, whatever was asked for
	w := begin().symbols(284).number(0, 5)
	expect(t, "P4", w.out[:len(w.out)-1], 1, api.ErrEnd, "a")
	// a symbol that means nothing is known without a distance: four bits are left
	expect(t, "P4", (&writer{}).block(true, 1).symbols(200, 286).out, 9, api.ErrSymbol, "\xc8")
}

// The bits behind a distance's code belong to it: without them it is not known
// to be too far.
func TestDistanceIsReadWhole(t *testing.T) {
	w := (&writer{}).block(true, 1).symbols(257).code(binary(29, 5))
	expect(t, "P4", w.out, 9, api.ErrEnd, "")
	expect(t, "P4", w.number(0, 13).out, 9, api.ErrFar, "")
}
