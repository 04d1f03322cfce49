package codes

import (
	"slices"
	"testing"

	"bellows/api"
	"bellows/feed"
)

// bitsOf lays bits, as text, into bytes, the lowest bit first.
func bitsOf(text string) []byte {
	out := make([]byte, (len(text)+7)/8)
	for i, c := range text {
		out[i/8] |= byte(c-'0') << (i % 8)
	}
	return out
}

func TestLengthsThatMayBe(t *testing.T) {
	fifteens := append([]int{1, 2, 3, 4, 5, 6, 7, 8, 9, 10, 11, 12, 13, 14}, 15, 15)
	for _, c := range []struct {
		lengths   []int
		symbols   api.Errno
		distances api.Errno
	}{
		{[]int{1, 1}, api.OK, api.OK},
		{[]int{0, 1, 0, 2, 2}, api.OK, api.OK},
		{slices.Repeat([]int{5}, 32), api.OK, api.OK},
		{fifteens, api.OK, api.OK},
		{[]int{0, 0, 1}, api.OK, api.OK},
		{nil, api.ErrCodes, api.OK},
		{[]int{0, 0, 0}, api.ErrCodes, api.OK},
		{[]int{2}, api.ErrCodes, api.ErrCodes},
		{[]int{15}, api.ErrCodes, api.ErrCodes},
		{[]int{2, 2}, api.ErrCodes, api.ErrCodes},
		{[]int{1, 2}, api.ErrCodes, api.ErrCodes},
		{[]int{1, 1, 1}, api.ErrCodes, api.ErrCodes},
		{[]int{1, 1, 15}, api.ErrCodes, api.ErrCodes},
		{fifteens[:15], api.ErrCodes, api.ErrCodes},
		{slices.Repeat([]int{1}, 286), api.ErrCodes, api.ErrCodes},
	} {
		if _, err := Deal(c.lengths); err != c.symbols {
			t.Errorf("P5: Deal(%v): %d, want %d", c.lengths, err, c.symbols)
		}
		if _, err := DealDistances(c.lengths); err != c.distances {
			t.Errorf("P5: DealDistances(%v): %d, want %d", c.lengths, err, c.distances)
		}
	}
}

func TestCodesAreDealtOut(t *testing.T) {
	// the example of RFC 1951, 3.2.2
	table, _ := Deal([]int{3, 3, 3, 3, 3, 2, 4, 4})
	for symbol, code := range []string{"010", "011", "100", "101", "110", "00", "1110", "1111"} {
		from := feed.New(bitsOf(code))
		got, err := table.Read(from)
		if got != symbol || err != api.OK {
			t.Errorf("P5: the code %s is %d, %d, want %d", code, got, err, symbol)
		}
	}
}

func TestCodesOverGaps(t *testing.T) {
	// no code has two bits
	table, _ := Deal([]int{3, 0, 1, 3, 3, 0, 3})
	for code, symbol := range map[string]int{"0": 2, "100": 0, "101": 3, "110": 4, "111": 6} {
		got, err := table.Read(feed.New(bitsOf(code)))
		if got != symbol || err != api.OK {
			t.Errorf("P5: the code %s is %d, %d, want %d", code, got, err, symbol)
		}
	}
}

func TestNoCode(t *testing.T) {
	one, _ := Deal([]int{0, 1})
	if got, err := one.Read(feed.New(bitsOf("0"))); got != 1 || err != api.OK {
		t.Errorf("P5: the single code: %d, %d", got, err)
	}
	from := feed.New(bitsOf("10000000"))
	if _, err := one.Read(from); err != api.ErrSymbol {
		t.Errorf("P5: what is not the single code: %d", err)
	}
	if rest := from.Number(7); rest != 0 {
		t.Errorf("P5: more than one bit was read")
	}
	none, _ := DealDistances([]int{0, 0})
	if _, err := none.Read(feed.New(nil)); err != api.ErrSymbol {
		t.Errorf("P5: without any code: %d", err)
	}
}
