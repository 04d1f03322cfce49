package feed

import (
	"bytes"
	"testing"

	"bellows/api"
)

func TestBitsLowestFirst(t *testing.T) {
	f := New([]byte{0b10110010, 0b00000001})
	for i, want := range []int{0, 1, 0, 0, 1, 1, 0, 1, 1, 0, 0, 0, 0, 0, 0, 0} {
		if got := f.Bit(); got != want {
			t.Errorf("bit %d is %d, want %d", i, got, want)
		}
	}
}

func TestNumbers(t *testing.T) {
	f := New([]byte{0b10110010, 0x34, 0x12})
	for _, c := range []struct{ bits, want int }{{0, 0}, {3, 0b010}, {5, 0b10110}, {16, 0x1234}} {
		if got := f.Number(c.bits); got != c.want {
			t.Errorf("number of %d bits is %d, want %d", c.bits, got, c.want)
		}
	}
}

func TestPassByte(t *testing.T) {
	f := New([]byte{0xff, 0x21, 0x43})
	f.PassByte()
	if f.Used() != 0 {
		t.Errorf("a byte that was not begun is passed over")
	}
	f.Bit()
	if f.Used() != 1 {
		t.Errorf("Used %d behind one bit", f.Used())
	}
	f.PassByte()
	if got := f.Number(8); got != 0x21 || f.Used() != 2 {
		t.Errorf("behind a byte that was begun: %x, Used %d", got, f.Used())
	}
}

func TestMissingBitsPanic(t *testing.T) {
	f := New([]byte{0xff})
	defer func() {
		if _, ours := recover().(Missing); !ours {
			t.Errorf("no panic with Missing")
		}
	}()
	f.Number(9)
}

func TestWholeGoesBack(t *testing.T) {
	f := New([]byte{0x21, 0x43})
	f.Number(4)
	err := f.Whole(func() api.Errno {
		f.Number(99)
		return api.OK
	})
	if err != api.ErrEnd {
		t.Errorf("a thing whose bits are missing: %d", err)
	}
	if got := f.Number(12); got != 0x432 {
		t.Errorf("read anew: %x", got)
	}
}

func TestWholeStays(t *testing.T) {
	f := New([]byte{0x21})
	for _, want := range []api.Errno{api.OK, api.ErrCodes} {
		err := f.Whole(func() api.Errno {
			f.Number(4)
			return want
		})
		if err != want {
			t.Errorf("a whole thing: %d, want %d", err, want)
		}
	}
	if f.at != 8 {
		t.Errorf("it stands at bit %d", f.at)
	}
}

func TestWholeHidesNoFault(t *testing.T) {
	defer func() {
		if cause := recover(); cause != "fault" {
			t.Errorf("another panic became %v", cause)
		}
	}()
	New(nil).Whole(func() api.Errno { panic("fault") })
}

func TestAddGoesOn(t *testing.T) {
	f := New([]byte{0x21})
	f.Number(4)
	f.Whole(func() api.Errno {
		f.Number(12)
		return api.OK
	})
	f.Add(nil)
	f.Add([]byte{0x43})
	f.Add([]byte{0x65, 0x87})
	if got := f.Number(28); got != 0x8765432 || f.Used() != 4 {
		t.Errorf("P8: with more behind: %x, Used %d", got, f.Used())
	}
}

func TestAddCopies(t *testing.T) {
	first, room := make([]byte, 1, 9), []byte{2, 3, 4}
	f := New(first)
	f.Add(room[:1])
	f.Add(room[1:2])
	room[0], room[1] = 0xff, 0xff
	if got := f.Number(24); got != 0x030200 {
		t.Errorf("P2: what was handed in is kept: %x", got)
	}
	if !bytes.Equal(first[:9], make([]byte, 9)) || room[2] != 4 {
		t.Errorf("P2: what was handed in was written into: %x, %x", first[:9], room)
	}
}

func TestForget(t *testing.T) {
	for bits := range 33 {
		f := New([]byte{0x21, 0x43, 0x65, 0x87})
		f.Number(bits)
		used := f.Used()
		for range 2 {
			f.Forget()
			if f.Used() != used || len(f.from) != 4-bits/8 {
				t.Errorf("P8: behind %d bits: Used %d, want %d, and %d bytes are kept", bits, f.Used(), used, len(f.from))
			}
		}
		f.Add([]byte{0xa9})
		if got := f.Number(40 - bits); got != 0xa987654321>>bits || f.Used() != 5 {
			t.Errorf("P8: behind %d bits: %x, Used %d", bits, got, f.Used())
		}
	}
}

func TestPassByteBehindForgotten(t *testing.T) {
	f := New([]byte{0x21, 0x43, 0x65})
	f.Number(9)
	f.Forget()
	f.PassByte()
	if got := f.Number(8); got != 0x65 || f.Used() != 3 {
		t.Errorf("P8: behind a byte that was begun: %x, Used %d", got, f.Used())
	}
}

func TestForgetKeepsNothingOfWhatWasRead(t *testing.T) {
	f := New(nil)
	f.Add(make([]byte, 1000))
	f.Number(7)
	for range 999 {
		f.Number(8)
	}
	before := f.from
	f.Forget()
	if len(f.from) != 1 || &f.from[0] == &before[999] {
		t.Errorf("P8: %d bytes are kept, those ahead of them perhaps too", len(f.from))
	}
}
