package bare

import (
	"math/rand"
	"slices"
	"testing"

	"bellows/api"
	"bellows/codes"
	"bellows/feed"
	"bellows/sink"
)

// written is a mark's number, and room behind it.
func written(m mark) *feed.Feed {
	to := &sink.Sink{}
	to.Number(m.number, m.bits)
	return feed.New(to.Out())
}

func TestEveryLengthIsReadAgain(t *testing.T) {
	for length := 3; length <= 258; length++ {
		m := lengthMark(length)
		if got, err := readLength(written(m), m.symbol); got != length || err != api.OK {
			t.Errorf("P9: length %d is %v, which is %d, %d", length, m, got, err)
		}
	}
	if m := lengthMark(258); m != (mark{285, 0, 0}) {
		t.Errorf("P9: length 258 is %v", m)
	}
}

func TestEveryDistanceIsReadAgain(t *testing.T) {
	_, lengths := fixedLengths()
	table, book := fixedCoding().distances, codes.NewBook(lengths)
	for distance := 1; distance <= api.Window; distance++ {
		m := distanceMark(distance)
		to := &sink.Sink{}
		m.write(to, book)
		if got, err := readDistance(feed.New(to.Out()), table); got != distance || err != api.OK {
			t.Errorf("P9: distance %d is %v, which is %d, %d", distance, m, got, err)
		}
	}
}

// readAgain writes the marks of a row with codes of five bits, and reads them.
func readAgain(row []int) ([]int, api.Errno) {
	lengths := slices.Repeat([]int{5}, 32)
	to := &sink.Sink{}
	for _, m := range rowMarks(row) {
		m.write(to, codes.NewBook(lengths))
	}
	table, _ := codes.Deal(lengths)
	return readRow(feed.New(to.Out()), table, len(row))
}

func TestRowsAreReadAgain(t *testing.T) {
	for times := range 320 {
		for _, length := range []int{0, 7} {
			for _, ahead := range [][]int{nil, {7}, {0}, {3, 7}} {
				row := append(append(slices.Clone(ahead), slices.Repeat([]int{length}, times)...), 15)
				if got, err := readAgain(row); err != api.OK || !slices.Equal(got, row) {
					t.Errorf("P9: %v and %d times %d is read as %v, %d", ahead, times, length, got, err)
				}
			}
		}
	}
	source := rand.New(rand.NewSource(12))
	for range 1000 {
		var row []int
		for range 1 + source.Intn(20) {
			row = append(row, slices.Repeat([]int{source.Intn(16) * source.Intn(2)}, 1+source.Intn(30))...)
		}
		if got, err := readAgain(row); err != api.OK || !slices.Equal(got, row) {
			t.Errorf("P9: %v is read as %v, %d", row, got, err)
		}
	}
}

func TestRowMarks(t *testing.T) {
	for _, c := range []struct {
		length, times int
		want          []mark
	}{
		{0, 2, []mark{{0, 0, 0}, {0, 0, 0}}},
		{0, 3, []mark{{17, 0, 3}}},
		{0, 10, []mark{{17, 7, 3}}},
		{0, 11, []mark{{18, 0, 7}}},
		{0, 138, []mark{{18, 127, 7}}},
		{0, 139, []mark{{18, 127, 7}, {0, 0, 0}}},
		{8, 3, []mark{{8, 0, 0}, {8, 0, 0}, {8, 0, 0}}},
		{8, 4, []mark{{8, 0, 0}, {16, 0, 2}}},
		{8, 7, []mark{{8, 0, 0}, {16, 3, 2}}},
		{8, 10, []mark{{8, 0, 0}, {16, 3, 2}, {16, 0, 2}}},
	} {
		if got := rowMarks(slices.Repeat([]int{c.length}, c.times)); !slices.Equal(got, c.want) {
			t.Errorf("P9: %d times %d is told as %v", c.times, c.length, got)
		}
	}
}
