package sink

import (
	"testing"

	"bellows/feed"
)

func TestBitsAreWrittenFromTheLowestOn(t *testing.T) {
	s := &Sink{}
	for _, bit := range []int{1, 1, 0, 0, 0, 0, 0, 1, 1} {
		s.Bit(bit)
	}
	if got := string(s.Out()); got != "\x83\x01" {
		t.Errorf("P9: bits became %x", got)
	}
}

func TestNumbersAreReadAgain(t *testing.T) {
	s := &Sink{}
	for bits := range 17 {
		s.Number(1<<bits-1, bits)
		s.Number(1<<bits/2, bits)
	}
	from := feed.New(s.Out())
	for bits := range 17 {
		most, high := from.Number(bits), from.Number(bits)
		if most != 1<<bits-1 || bits > 0 && high != 1<<bits/2 {
			t.Errorf("P9: numbers of %d bits became %d and %d", bits, most, high)
		}
	}
}

func TestWordsAndLongsAreLowestFirst(t *testing.T) {
	s := &Sink{}
	s.Number(0x1234, 16)
	s.Number(0xfedcba98, 32)
	if got := string(s.Out()); got != "\x34\x12\x98\xba\xdc\xfe" {
		t.Errorf("P9: a word and a long became %x", got)
	}
}

func TestFillBeginsAByte(t *testing.T) {
	s := &Sink{}
	s.Fill()
	s.Bit(1)
	s.Fill()
	s.Fill()
	s.Number(2, 2)
	s.Bytes('a', 'b')
	s.Bytes()
	s.Bit(1)
	if got := string(s.Out()); got != "\x01\x02ab\x01" {
		t.Errorf("P9: it became %x", got)
	}
}
