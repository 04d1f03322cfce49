package bare

import (
	"bytes"
	"math/rand"
	"testing"

	"bellows/api"
	"bellows/feed"
)

// A decoder that met an early end stands where the last whole thing ended.
func TestRunGoesBackToTheLastWholeThing(t *testing.T) {
	whole := []byte{0x4b, 0x04, 0x00}
	from := feed.New(whole[:2])
	d := New(from, 9)
	for _, want := range []string{"a", "", ""} {
		if out, err := d.Run(); err != api.ErrEnd || string(out) != want {
			t.Errorf("an early end: %d, %q, want %q", err, out, want)
		}
	}
	if from.Number(5) != 0 || from.Used() != 2 {
		t.Errorf("it does not stand behind the code of 97")
	}
}

// Packed in each way and handed over byte by byte, it is all put out, and little is kept.
func TestRunGoesOnWhenMoreHasCome(t *testing.T) {
	source := rand.New(rand.NewSource(19))
	text := make([]byte, 3*api.Window)
	for i := range text {
		text[i] = byte(source.Intn(1 + i%97))
	}
	// copies from as far as may be
	text = append(text, text[len(text)-api.Window:len(text)-api.Window+1000]...)
	for way := range 3 {
		packed := Pack(way, text)
		from := feed.New(nil)
		d := New(from, len(text))
		var all []byte
		for i := range packed {
			from.Add(packed[i : i+1])
			out, err := d.Run()
			from.Forget()
			all = append(all, out...)
			if ended := i == len(packed)-1; ended != (err == api.OK) || !ended && err != api.ErrEnd {
				t.Fatalf("P8: way %d, byte %d of %d: %d", way, i, len(packed), err)
			}
			if len(d.out.kept) > mostKept {
				t.Fatalf("P8: way %d, byte %d: %d bytes are kept", way, i, len(d.out.kept))
			}
		}
		if !bytes.Equal(all, text) || from.Used() != len(packed) {
			t.Errorf("P8: way %d: %d bytes became %d, and %d of %d were read", way, len(text), len(all), from.Used(), len(packed))
		}
	}
}

func TestLengthsAndDistancesMeetTheirNeighbours(t *testing.T) {
	noughts := make([]byte, 4)
	ones := []byte{0xff, 0xff, 0xff, 0xff}
	next := 3
	for symbol := 257; symbol < 285; symbol++ {
		least, _ := readLength(feed.New(noughts), symbol)
		most, _ := readLength(feed.New(ones), symbol)
		if least != next {
			t.Errorf("P4: symbol %d begins at %d, want %d", symbol, least, next)
		}
		next = most + 1
	}
	if next != 259 {
		t.Errorf("P4: symbol 284 ends ahead of %d", next)
	}
	if length, err := readLength(feed.New(nil), 285); length != 258 || err != api.OK {
		t.Errorf("P4: symbol 285 is %d, %d", length, err)
	}
}
