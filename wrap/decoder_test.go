package wrap

import (
	"testing"

	"bellows/api"
	"bellows/feed"
)

const (
	zlibA = "\x78\x01\x4b\x04\x00\x00\x62\x00\x62"
	gzipA = "\x1f\x8b\x08\x1c\x01\x02\x03\x04\x05\x06\x02\x00xyname\x00a remark\x00\x4b\x04\x00\x43\xbe\xb7\xe8\x01\x00\x00\x00"
)

// A decoder that met an early end answers the same when it is run once more: it
// stands where the last whole thing ended, and nothing was counted twice.
func TestRunGoesBackToTheLastWholeThing(t *testing.T) {
	for kind, all := range []string{api.Bare: "\x4b\x04\x00", api.Zlib: zlibA, api.Gzip: gzipA} {
		for n := range all {
			from := feed.New([]byte(all[:n]))
			d, _ := New(kind, from, 9)
			d.Run()
			used, left, name := from.Used(), len(d.parts), d.Name()
			if out, err := d.Run(); err != api.ErrEnd || len(out) != 0 {
				t.Errorf("kind %d, %d bytes: %d, %q", kind, n, err, out)
			}
			if from.Used() != used || len(d.parts) != left || d.Name() != name {
				t.Errorf("kind %d, %d bytes: it went on from an early end", kind, n)
			}
		}
	}
}

// pieces runs a decoder on bytes that come so many at a time, with none at every
// other time: all that it put out, and how it ended.
func pieces(t *testing.T, kind int, all string, size int) (out string, err api.Errno, used int) {
	from := feed.New(nil)
	d, _ := New(kind, from, 99)
	err = api.ErrEnd
	for i := 0; err == api.ErrEnd && len(all) > 0; i++ {
		n := i % 2 * min(size, len(all))
		from.Add([]byte(all[:n]))
		all = all[n:]
		var more []byte
		more, err = d.Run()
		from.Forget()
		out += string(more)
		if d.out != nil {
			t.Errorf("P2: kind %d: what was handed out is kept", kind)
		}
	}
	return out, err, from.Used()
}

// What stands behind the bare bytes is held against what all runs together have
// put out.
func TestTailsOfPieces(t *testing.T) {
	const bare = "\x00\x03\x00\xfc\xffabc\x01\x02\x00\xfd\xffde"
	for kind := range 3 {
		whole := string(Around(kind, []byte(bare), []byte("abcde")))
		for size := 1; size <= len(whole); size++ {
			if out, err, used := pieces(t, kind, whole, size); out != "abcde" || err != api.OK || used != len(whole) {
				t.Errorf("P8: kind %d, %d at a time: %q, %d, %d of %d read", kind, size, out, err, used, len(whole))
			}
			if kind == api.Bare {
				continue
			}
			wrong := string(Around(kind, []byte(bare), []byte("abcdf")))
			if out, err, _ := pieces(t, kind, wrong, size); out != "abcde" || err != api.ErrSum {
				t.Errorf("P8: kind %d, %d at a time, with a wrong tail: %q, %d", kind, size, out, err)
			}
		}
	}
	for size := 1; size <= len(gzipA); size++ {
		if out, err, used := pieces(t, api.Gzip, gzipA, size); out != "a" || err != api.OK || used != len(gzipA) {
			t.Errorf("P8: a Gzip, %d at a time: %q, %d, %d of %d read", size, out, err, used, len(gzipA))
		}
	}
}

func TestKinds(t *testing.T) {
	for kind, want := range map[int]api.Errno{-1: api.ErrKind, 0: api.OK, 1: api.OK, 2: api.OK, 3: api.ErrKind} {
		d, err := New(kind, feed.New(nil), 9)
		if err != want || (d == nil) != (want != api.OK) {
			t.Errorf("P3: kind %d: %d", kind, err)
		}
	}
}

// A word that is not all there is not in the head's check.
func TestHalfAWordIsNotChecked(t *testing.T) {
	d, _ := New(api.Gzip, feed.New([]byte(gzipA[10:11])), 9)
	g := &gzip{Decoder: d}
	err := d.from.Whole(func() api.Errno {
		_, err := g.extraSize()
		return err
	})
	if err != api.ErrEnd || g.head != 0 || g.left != 0 {
		t.Errorf("P7: half a word: %d, check %x, %d bytes", err, g.head, g.left)
	}
}
