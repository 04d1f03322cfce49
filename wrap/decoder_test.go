package wrap

import (
	"testing"

	"bellows/api"
	"bellows/feed"
)

const (
	zlibA = "\x78\x01\x4b\x04\x00\x00\x62\x00\x62"
	gzipA = "\x1f\x8b\x08\x1c\x01\x02\x03\x04\x05\x06\x02\x00xyname\x00a remark\x00\x4b\x04\x00\x43\xbe\xb7\xe8\x01\x00\x00\x00"
)

// A decoder that met an early end answers the same when it is run once more: it
// stands where the last whole thing ended, and nothing was counted twice.
func TestRunGoesBackToTheLastWholeThing(t *testing.T) {
	for kind, all := range []string{api.Bare: "\x4b\x04\x00", api.Zlib: zlibA, api.Gzip: gzipA} {
		for n := range all {
			from := feed.New([]byte(all[:n]))
			d, _ := New(kind, from, 9)
			d.Run()
			used, left, out, name := from.Used(), len(d.parts), string(d.Out()), d.Name()
			if err := d.Run(); err != api.ErrEnd {
				t.Errorf("kind %d, %d bytes: %d", kind, n, err)
			}
			if from.Used() != used || len(d.parts) != left || string(d.Out()) != out || d.Name() != name {
				t.Errorf("kind %d, %d bytes: it went on from an early end", kind, n)
			}
		}
	}
}

func TestKinds(t *testing.T) {
	for kind, want := range map[int]api.Errno{-1: api.ErrKind, 0: api.OK, 1: api.OK, 2: api.OK, 3: api.ErrKind} {
		d, err := New(kind, feed.New(nil), 9)
		if err != want || (d == nil) != (want != api.OK) {
			t.Errorf("P3: kind %d: %d", kind, err)
		}
	}
}

// A word that is not all there is not in the head's check.
func TestHalfAWordIsNotChecked(t *testing.T) {
	d, _ := New(api.Gzip, feed.New([]byte(gzipA[10:11])), 9)
	g := &gzip{Decoder: d}
	err := d.from.Whole(func() api.Errno {
		_, err := g.extraSize()
		return err
	})
	if err != api.ErrEnd || g.head != 0 || g.left != 0 {
		t.Errorf("P7: half a word: %d, check %x, %d bytes", err, g.head, g.left)
	}
}
