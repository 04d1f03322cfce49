package bare

import (
	"bytes"
	"testing"

	"bellows/api"
)

func TestPut(t *testing.T) {
	o := output{most: 4}
	if err := o.put('a', 'b', 'c'); err != api.OK {
		t.Errorf("P4: put with room: %d", err)
	}
	if err := o.put('d', 'e'); err != api.ErrMuch {
		t.Errorf("P4: put without room: %d", err)
	}
	if string(o.all) != "abcd" {
		t.Errorf("P4: put out: %q", o.all)
	}
}

func TestWindowEndsWithItself(t *testing.T) {
	o := output{all: make([]byte, 0, 64), most: 64}
	o.put([]byte("abc")...)
	window := append(o.window(), "xyz"...)
	if string(window) != "abcxyz" {
		t.Errorf("the window is %q", window)
	}
	if behind := o.all[3:6]; !bytes.Equal(behind, make([]byte, 3)) {
		t.Errorf("behind the window stands %q", behind)
	}
}

func TestWindowReachesBack(t *testing.T) {
	o := output{most: api.MostOut}
	if len(o.window()) != 0 {
		t.Errorf("a window of nothing")
	}
	o.put('a')
	o.put(make([]byte, api.Window-1)...)
	if w := o.window(); len(w) != api.Window || w[0] != 'a' {
		t.Errorf("a window of %d bytes, from %d on", len(w), w[0])
	}
	o.put('b')
	if w := o.window(); len(w) != api.Window || w[0] != 0 || w[api.Window-1] != 'b' {
		t.Errorf("a window of %d bytes, from %d on", len(w), w[0])
	}
}

func TestStretched(t *testing.T) {
	for _, c := range []struct {
		piece  string
		length int
		want   string
	}{{"abcd", 3, "abc"}, {"abc", 3, "abc"}, {"a", 5, "aaaaa"}, {"abc", 10, "abcabcabca"}} {
		if got := string(stretched([]byte(c.piece), c.length)); got != c.want {
			t.Errorf("P4: %q stretched to %d is %q", c.piece, c.length, got)
		}
	}
}
