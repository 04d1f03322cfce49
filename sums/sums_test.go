package sums

import (
	"strings"
	"testing"
)

func everyByte() string {
	var all []byte
	for i := range 256 {
		all = append(all, byte(i))
	}
	return string(all)
}

// known: bytes whose sums and checks are known from elsewhere.
func known() []struct {
	bytes string
	sum   Sum
	check Check
} {
	return []struct {
		bytes string
		sum   Sum
		check Check
	}{
		{"", 1, 0},
		{"a", 0x00620062, 0xe8b7be43},
		{"abc", 0x024d0127, 0x352441c2},
		{"123456789", 0x091e01de, 0xcbf43926},
		{"The quick brown fox jumps over the lazy dog", 0x5bdc0fda, 0x414fa339},
		{strings.Repeat("\x00", 100), 0x00640001, 0x9988c6ca},
		{everyByte(), 0xadf67f81, 0x29058c73},
		{strings.Repeat("\xff", 70000), 0x2a286e81, 0x80f95a0a},
	}
}

func TestSum(t *testing.T) {
	for _, c := range known() {
		if got := NoSum.With([]byte(c.bytes)...); got != c.sum {
			t.Errorf("P6: the sum of %.20q is %08x, want %08x", c.bytes, uint32(got), uint32(c.sum))
		}
	}
}

func TestCheck(t *testing.T) {
	for _, c := range known() {
		if got := Check(0).With([]byte(c.bytes)...); got != c.check {
			t.Errorf("P7: the check of %.20q is %08x, want %08x", c.bytes, uint32(got), uint32(c.check))
		}
	}
}

func TestInPieces(t *testing.T) {
	for _, c := range known() {
		sum, check := NoSum, Check(0)
		for _, b := range []byte(c.bytes) {
			sum, check = sum.With(b).With(), check.With(b).With()
		}
		if sum != c.sum || check != c.check {
			t.Errorf("P6, P7: in pieces, %.20q: %08x, %08x", c.bytes, uint32(sum), uint32(check))
		}
	}
}
