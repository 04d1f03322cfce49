package bellows_test

import (
	"bytes"
	"encoding/hex"
	"math"
	"math/rand"
	"reflect"
	"strings"
	"testing"

	"bellows/api"
	"bellows/bellows"
)

// expect holds an Unpack of bare bytes against what is wanted.
func expect(t *testing.T, promise string, b []byte, most int, err api.Errno, out string) {
	t.Helper()
	used := 0
	if err == api.OK {
		used = len(b)
	}
	got := bellows.Unpack(api.Bare, b, most)
	if got.Err != err || string(got.Out) != out || got.Used != used || got.Name != "" {
		t.Errorf("%s: Unpack(Bare, %.60x, %d) = %d, %.60q, %d, %q, want %d, %.60q, %d",
			promise, b, most, got.Err, got.Out, got.Used, got.Name, err, out, used)
	}
}

func fromHex(t *testing.T, text string) []byte {
	t.Helper()
	b, err := hex.DecodeString(strings.ReplaceAll(text, " ", ""))
	if err != nil {
		t.Fatal(err)
	}
	return b
}

// mixed is bare bytes with blocks of all types, and what they put out.
func mixed() ([]byte, string) {
	w := &writer{}
	w.stored(false, []byte("hello, "))
	w.block(false, 1).text("hello").copies(12, 7).symbols(256)
	w.block(false, 2)
	tellSmall(w).code("0", "10", "111", "0", "110")
	w.stored(false, nil)
	w.block(true, 1).copies(258, 1).symbols(256)
	out := copied([]byte("hello, hello"), 12, 7)
	out = append(out, "ab"...)
	out = copied(out, 3, 1)
	return w.out, string(copied(out, 258, 1))
}

func TestEveryShortInputEnds(t *testing.T) {
	for _, most := range []int{math.MinInt, -1, 0, 1, 2, math.MaxInt} {
		sane(t, nil, most)
		for i := range 256 {
			sane(t, []byte{byte(i)}, most)
		}
	}
	for i := range 1 << 16 {
		sane(t, []byte{byte(i), byte(i >> 8)}, i%3)
	}
}

// sane asks of an answer what every answer has.
func sane(t *testing.T, b []byte, most int) {
	t.Helper()
	r := bellows.Unpack(api.Bare, b, most)
	switch r.Err {
	case api.OK:
		if r.Used < 1 || r.Used > len(b) {
			t.Errorf("P3: Unpack(%x, %d): Used %d", b, most, r.Used)
		}
	case api.ErrEnd, api.ErrBlock, api.ErrStored, api.ErrCodes, api.ErrRepeat, api.ErrSymbol, api.ErrFar, api.ErrMuch:
		if r.Used != 0 {
			t.Errorf("P3: Unpack(%x, %d): error %d, and Used %d", b, most, r.Err, r.Used)
		}
	default:
		t.Errorf("P3: Unpack(%x, %d): error %d", b, most, r.Err)
	}
	asked := min(max(most, 0), 1048576)
	if len(r.Out) > asked || r.Err == api.ErrMuch && len(r.Out) != asked {
		t.Errorf("P3: Unpack(%x, %d): error %d, %d bytes", b, most, r.Err, len(r.Out))
	}
	if r.Name != "" {
		t.Errorf("P3: Unpack(%x, %d): name %q", b, most, r.Name)
	}
}

func TestSpoiledInputsEnd(t *testing.T) {
	good, _ := mixed()
	source := rand.New(rand.NewSource(7))
	for range 20000 {
		b := bytes.Clone(good)
		for range 1 + source.Intn(3) {
			b[source.Intn(len(b))] ^= 1 << source.Intn(8)
		}
		sane(t, b, source.Intn(400))
	}
}

// What is wrong does not hang on what stands behind: a piece of the bytes is
// either too short to tell, or tells the same.
func TestPiecesTellTheSame(t *testing.T) {
	good, _ := mixed()
	source := rand.New(rand.NewSource(8))
	for range 300 {
		b := bytes.Clone(good)
		b[source.Intn(len(b))] ^= 1 << source.Intn(8)
		whole := bellows.Unpack(api.Bare, b, 1000)
		for n := range b {
			piece := bellows.Unpack(api.Bare, b[:n], 1000)
			if piece.Err == api.ErrEnd && bytes.HasPrefix(whole.Out, piece.Out) {
				continue
			}
			if !reflect.DeepEqual(piece, whole) {
				t.Fatalf("P3: %x: %d bytes of it: %d, %q, all: %d, %q", b, n, piece.Err, piece.Out, whole.Err, whole.Out)
			}
		}
	}
}

func TestNothingHandedInIsWrittenInto(t *testing.T) {
	good, out := mixed()
	for _, most := range []int{0, 5, len(out)} {
		room := append(bytes.Clone(good), 1, 2, 3, 4)
		before := bytes.Clone(room)
		bellows.Unpack(api.Bare, room[:len(good)], most)
		if !bytes.Equal(room, before) {
			t.Errorf("P2: what was handed in was written into")
		}
	}
}

func TestWhatComesOutIsNew(t *testing.T) {
	good, out := mixed()
	first := bellows.Unpack(api.Bare, good, 1000)
	second := bellows.Unpack(api.Bare, good, 1000)
	for i := range first.Out[:cap(first.Out)] {
		first.Out[:cap(first.Out)][i] = 'z'
	}
	if string(second.Out) != out {
		t.Errorf("P2: what came out of another call was changed")
	}
	expect(t, "P2", good, 1000, api.OK, out)
	stored := (&writer{}).stored(true, []byte("abc")).out
	third := bellows.Unpack(api.Bare, stored, 9)
	third.Out[0] = 'z'
	expect(t, "P2", stored, 9, api.OK, "abc")
	fourth := bellows.Unpack(api.Bare, stored, 9)
	stored[5] = 'y'
	if string(fourth.Out) != "abc" {
		t.Errorf("P2: what was handed in is kept")
	}
}

func TestKinds(t *testing.T) {
	for _, kind := range []int{math.MinInt, -1, 3, 4, 256, math.MaxInt} {
		for _, b := range []string{"4b 04 00", "07", ""} {
			for _, most := range []int{-1, 0, 9} {
				got := bellows.Unpack(kind, fromHex(t, b), most)
				if got.Err != api.ErrKind || len(got.Out) != 0 || got.Used != 0 || got.Name != "" {
					t.Errorf("P3: Unpack(%d, %s, %d) = %+v", kind, b, most, got)
				}
			}
		}
	}
}

func TestUsedEndsWithTheLastByte(t *testing.T) {
	good, out := mixed()
	for _, behind := range []string{"", "\x00", "\xff\xff", "more of it"} {
		got := bellows.Unpack(api.Bare, append(bytes.Clone(good), behind...), 1000)
		if got.Err != api.OK || got.Used != len(good) || string(got.Out) != out {
			t.Errorf("P3: with %q behind: %d, Used %d of %d", behind, got.Err, got.Used, len(good))
		}
	}
}

func TestAskedFor(t *testing.T) {
	good, out := mixed()
	for most := range len(out) {
		expect(t, "P3", good, most, api.ErrMuch, out[:most])
	}
	for _, most := range []int{len(out), len(out) + 1, 1048576, 1048577, math.MaxInt} {
		expect(t, "P3", good, most, api.OK, out)
	}
	for _, most := range []int{-1, -1048576, math.MinInt} {
		expect(t, "P3", good, most, api.ErrMuch, "")
		expect(t, "P3", []byte{3, 0}, most, api.OK, "")
	}
}

func TestMostOut(t *testing.T) {
	const most = 1048576
	fill := func(bytes int) []byte {
		w := (&writer{}).block(true, 1).text("a")
		for bytes--; bytes >= 258+3; bytes -= 258 {
			w.copies(258, 1)
		}
		for ; bytes > 0; bytes-- {
			w.text("a")
		}
		return w.symbols(256).out
	}
	all := strings.Repeat("a", most)
	for _, asked := range []int{most, most + 1, math.MaxInt} {
		expect(t, "P3", fill(most), asked, api.OK, all)
		expect(t, "P3", fill(most+1), asked, api.ErrMuch, all)
		expect(t, "P3", fill(most+1000), asked, api.ErrMuch, all)
	}
	expect(t, "P3", fill(most), most-1, api.ErrMuch, all[1:])
}
