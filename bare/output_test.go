package bare

import (
	"bytes"
	"testing"

	"bellows/api"
)

func TestPut(t *testing.T) {
	o := output{room: 4}
	if err := o.put('a', 'b', 'c'); err != api.OK {
		t.Errorf("P4: put with room: %d", err)
	}
	if err := o.put('d', 'e'); err != api.ErrMuch {
		t.Errorf("P4: put without room: %d", err)
	}
	if err := o.put('f'); err != api.ErrMuch {
		t.Errorf("P4: put once more without room: %d", err)
	}
	if out := o.take(); string(out) != "abcd" {
		t.Errorf("P4: put out: %q", out)
	}
}

func TestTake(t *testing.T) {
	o := output{room: api.MostOut}
	if out := o.take(); len(out) != 0 {
		t.Errorf("P8: taken of nothing: %q", out)
	}
	o.put([]byte("abc")...)
	first := o.take()
	if again := o.take(); string(first) != "abc" || len(again) != 0 {
		t.Errorf("P8: taken: %q and %q", first, again)
	}
	o.put([]byte("de")...)
	first = first[:cap(first)]
	for i := range first {
		first[i] = 'z'
	}
	if window := string(o.window()); window != "abcde" {
		t.Errorf("P2: what was taken is kept: %q", window)
	}
	if second := o.take(); string(second) != "de" {
		t.Errorf("P8: taken behind a take: %q", second)
	}
}

// However it is put out and taken, the window is the last of it, and little more is kept.
func TestTakeKeepsAWindow(t *testing.T) {
	for _, size := range []int{1, 100, api.Window - 1, api.Window, api.Window + 1, 5 * api.Window} {
		o := output{room: api.MostOut}
		piece := make([]byte, size)
		var all []byte
		for len(all) < 4*api.Window {
			for i := range piece {
				piece[i] = byte((len(all) + i) % 251)
			}
			o.put(piece...)
			all = append(all, piece...)
			if out := o.take(); !bytes.Equal(out, piece) {
				t.Fatalf("P8: %d at once: taken were %d", size, len(out))
			}
			if len(o.kept) > mostKept {
				t.Fatalf("P8: %d at once: %d are kept", size, len(o.kept))
			}
			if len(all)%7 == 0 && !bytes.Equal(o.window(), all[max(0, len(all)-api.Window):]) {
				t.Fatalf("P8: %d at once: the window is not the last of %d", size, len(all))
			}
		}
		if !bytes.Equal(o.window(), all[len(all)-api.Window:]) || o.room != api.MostOut-len(all) {
			t.Errorf("P8: %d at once: the window is not the last of %d, or room for %d is left", size, len(all), o.room)
		}
	}
}

func TestWindowEndsWithItself(t *testing.T) {
	o := output{kept: make([]byte, 0, 64), room: 64}
	o.put([]byte("abc")...)
	window := append(o.window(), "xyz"...)
	if string(window) != "abcxyz" {
		t.Errorf("the window is %q", window)
	}
	if behind := o.kept[3:6]; !bytes.Equal(behind, make([]byte, 3)) {
		t.Errorf("behind the window stands %q", behind)
	}
}

func TestWindowReachesBack(t *testing.T) {
	o := output{room: api.MostOut}
	if len(o.window()) != 0 {
		t.Errorf("a window of nothing")
	}
	o.put('a')
	o.put(make([]byte, api.Window-1)...)
	if w := o.window(); len(w) != api.Window || w[0] != 'a' {
		t.Errorf("a window of %d bytes, from %d on", len(w), w[0])
	}
	o.put('b')
	if w := o.window(); len(w) != api.Window || w[0] != 0 || w[api.Window-1] != 'b' {
		t.Errorf("a window of %d bytes, from %d on", len(w), w[0])
	}
}

func TestStretched(t *testing.T) {
	for _, c := range []struct {
		piece  string
		length int
		want   string
	}{{"abcd", 3, "abc"}, {"abc", 3, "abc"}, {"a", 5, "aaaaa"}, {"abc", 10, "abcabcabca"}} {
		if got := string(stretched([]byte(c.piece), c.length)); got != c.want {
			t.Errorf("P4: %q stretched to %d is %q", c.piece, c.length, got)
		}
	}
}
