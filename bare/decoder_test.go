package bare

import (
	"testing"

	"bellows/api"
	"bellows/feed"
)

// A decoder that met an early end stands where the last whole thing ended.
func TestRunGoesBackToTheLastWholeThing(t *testing.T) {
	whole := []byte{0x4b, 0x04, 0x00}
	from := feed.New(whole[:2])
	d := New(from, 9)
	for range 2 {
		if err := d.Run(); err != api.ErrEnd || string(d.Out()) != "a" {
			t.Errorf("an early end: %d, %q", err, d.Out())
		}
	}
	if from.Number(5) != 0 || from.Used() != 2 {
		t.Errorf("it does not stand behind the code of 97")
	}
}

func TestLengthsAndDistancesMeetTheirNeighbours(t *testing.T) {
	noughts := make([]byte, 4)
	ones := []byte{0xff, 0xff, 0xff, 0xff}
	next := 3
	for symbol := 257; symbol < 285; symbol++ {
		least, _ := readLength(feed.New(noughts), symbol)
		most, _ := readLength(feed.New(ones), symbol)
		if least != next {
			t.Errorf("P4: symbol %d begins at %d, want %d", symbol, least, next)
		}
		next = most + 1
	}
	if next != 259 {
		t.Errorf("P4: symbol 284 ends ahead of %d", next)
	}
	if length, err := readLength(feed.New(nil), 285); length != 258 || err != api.OK {
		t.Errorf("P4: symbol 285 is %d, %d", length, err)
	}
}
