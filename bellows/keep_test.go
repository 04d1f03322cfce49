package bellows

import (
	"runtime"
	"testing"

	"bellows/api"
)

// A reader keeps nothing for which no promise asks: not what it has put out, and
// behind an error or the end nothing to read with.
func TestReaderKeepsLittle(t *testing.T) {
	for b, want := range map[string]struct {
		err   api.Errno
		ended bool
	}{
		"\x4b\x04":         {api.OK, false},
		"\x4b\x04\x00":     {api.OK, true},
		"\x4b\x04\x00more": {api.OK, true},
		"\x4b\x04\x42":     {api.ErrFar, true},
	} {
		r, _ := NewReader(api.Bare, 9)
		if out, err := r.Write([]byte(b)); string(out) != "a" || err != want.err {
			t.Errorf("P8: %x: %q, %d", b, out, err)
		}
		if r.now.Out != nil || (r.decoder == nil) != want.ended || (r.from == nil) != want.ended {
			t.Errorf("P8: behind %x it keeps %q, a decoder: %v, a feed: %v", b, r.now.Out, r.decoder != nil, r.from != nil)
		}
	}
}

// Bytes that come one by one do not move all that came ahead of them.
func TestReaderForgets(t *testing.T) {
	text := make([]byte, 60000)
	packed, _ := Pack(api.Bare, api.Stored, text)
	r, _ := NewReader(api.Bare, len(text))
	var before, behind runtime.MemStats
	runtime.ReadMemStats(&before)
	for i := range packed {
		r.Write(packed[i : i+1])
	}
	runtime.ReadMemStats(&behind)
	if done, used := r.Done(); !done || used != len(packed) {
		t.Errorf("P8: %v, %d of %d", done, used, len(packed))
	}
	if each := (behind.TotalAlloc - before.TotalAlloc) / uint64(len(packed)); each > 1000 {
		t.Errorf("P8: for each byte %d are asked for", each)
	}
}
