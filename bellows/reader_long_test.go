package bellows_test

import (
	"bytes"
	"math"
	"math/rand"
	"strings"
	"testing"

	"bellows/api"
	"bellows/bellows"
)

// readAll hands pieces of one size to a reader: all that it put out, and the
// last error.
func readAll(r *bellows.Reader, b []byte, size int) ([]byte, api.Errno) {
	var all []byte
	err := api.OK
	for len(b) > 0 && err == api.OK {
		n := min(size, len(b))
		var out []byte
		out, err = r.Write(b[:n])
		all = append(all, out...)
		b = b[n:]
	}
	return all, err
}

// Long after what was put out has been handed out, copies are taken from it, and
// sums are of all of it.
func TestReaderOfLongBytes(t *testing.T) {
	source := rand.New(rand.NewSource(25))
	text := random(source, 32768, 200)
	long := text + text + random(source, 50000, 3) + text + strings.Repeat(text[:1000], 100)
	for kind := range 3 {
		for way := range 3 {
			p := pack(t, kind, way, long)
			for _, size := range []int{1, 13, 4096, 100000, len(p)} {
				r := newReader(t, kind, len(long))
				out, err := readAll(r, p, size)
				done, used := r.Done()
				if err != api.OK || string(out) != long || !done || used != len(p) {
					t.Errorf("P8: kind %d, way %d, %d at a time: %d of %d bytes, %d, %v, %d of %d read",
						kind, way, size, len(out), len(long), err, done, used, len(p))
				}
			}
		}
	}
}

// From everywhere in a window copies may be taken, and from nowhere ahead of the
// beginning, although little of what was put out is there any more.
func TestReaderOfFarCopies(t *testing.T) {
	source := rand.New(rand.NewSource(26))
	for _, there := range []int{1, 100, 32767, 32768, 40000, 65535, 65536, 100000} {
		text := []byte(random(source, there, 256))
		w := &writer{}
		for at := 0; at < there; at += 60000 {
			w.stored(false, text[at:min(there, at+60000)])
		}
		w.block(true, 1)
		for _, distance := range []int{there, 1, 32768, 32767, 20000, 5} {
			if distance <= min(there, 32768) {
				w.copies(9, distance)
				text = copied(text, 9, distance)
			}
		}
		whole := bytes.Clone(w.symbols(256).out)
		for _, size := range []int{1, 1000, len(whole)} {
			r := newReader(t, api.Bare, len(text))
			if out, err := readAll(r, whole, size); err != api.OK || !bytes.Equal(out, text) {
				t.Errorf("P8: copies behind %d bytes, %d at a time: %d, %d of %d bytes", there, size, err, len(out), len(text))
			}
		}
	}
	w := (&writer{}).stored(false, []byte("abc")).block(true, 1).copies(3, 3).copies(3, 7)
	r := newReader(t, api.Bare, 99)
	if out, err := readAll(r, w.out, 1); string(out) != "abcabc" || err != api.ErrFar {
		t.Errorf("P8: a copy from ahead of the beginning: %q, %d", out, err)
	}
}

func TestReaderAskedFor(t *testing.T) {
	const b = "asked for are so many, and one less is not enough"
	for kind := range 3 {
		p := pack(t, kind, api.Fixed, b)
		for _, size := range []int{1, 5, len(p)} {
			for _, most := range []int{len(b), len(b) + 1, 1048576, 1048577, math.MaxInt} {
				if out, err := readAll(newReader(t, kind, most), p, size); string(out) != b || err != api.OK {
					t.Errorf("P8: kind %d, most %d, %d at a time: %q, %d", kind, most, size, out, err)
				}
			}
			for most, want := range map[int]string{math.MinInt: "", -1: "", 0: "", 1: b[:1], len(b) - 1: b[:len(b)-1]} {
				r := newReader(t, kind, most)
				out, err := readAll(r, p, size)
				if done, used := r.Done(); string(out) != want || err != api.ErrMuch || done || used != 0 {
					t.Errorf("P8: kind %d, most %d, %d at a time: %q, %d, %v, %d", kind, most, size, out, err, done, used)
				}
				answers(t, r, "more", fails(api.ErrMuch, "", ""))
			}
		}
	}
	// of nothing, nothing is too much
	r := newReader(t, api.Bare, -1)
	answers(t, r, "\x03", fails(api.ErrEnd, "", ""))
	answers(t, r, "\x00", api.Result{Used: 2})
}

func TestReaderMostOut(t *testing.T) {
	const most = 1048576
	whole := strings.Repeat("0123456789abcdef", most/16)
	much := (&writer{}).block(true, 1).text("0123456789abcdef")
	for left := most + 1 - 16; left > 0; {
		n := min(258, left)
		if left-n < 3 && left > n {
			n -= 3
		}
		much.copies(n, 16)
		left -= n
	}
	much.symbols(256)
	enough := pack(t, api.Bare, api.Fixed, whole)
	for _, asked := range []int{most, most + 1, math.MaxInt} {
		for _, size := range []int{1, len(much.out)} {
			if out, err := readAll(newReader(t, api.Bare, asked), enough, size); string(out) != whole || err != api.OK {
				t.Errorf("P8: most %d, %d at a time: %d bytes, %d", asked, size, len(out), err)
			}
			if out, err := readAll(newReader(t, api.Bare, asked), much.out, size); string(out) != whole || err != api.ErrMuch {
				t.Errorf("P8: most %d, %d at a time, one byte too much: %d bytes, %d", asked, size, len(out), err)
			}
		}
	}
}

// spoil writes into all of a slice's memory.
func spoil(b []byte) {
	b = b[:cap(b)]
	for i := range b {
		b[i] = 'z'
	}
}

func TestReaderKeepsNothingThatIsHandedIn(t *testing.T) {
	all, out := wrappedMixed()
	for kind, b := range all {
		for _, size := range []int{1, 2, 9, 30} {
			r := newReader(t, kind, len(out))
			got := ""
			for _, piece := range inPieces(b, size) {
				room := append([]byte(piece), "\x01\x02\x03\x04"...)
				put, err := r.Write(room[:len(piece)])
				if err != api.OK || string(room) != piece+"\x01\x02\x03\x04" {
					t.Fatalf("P2: kind %d, %d at a time: %d, what was handed in became %x", kind, size, err, room)
				}
				got += string(put)
				spoil(room)
				spoil(put)
			}
			if done, used := r.Done(); got != out || !done || used != len(b) {
				t.Errorf("P2: kind %d, %d at a time: %q, %v, %d", kind, size, got, done, used)
			}
		}
	}
}

func TestWhatComesOutOfAReaderIsNew(t *testing.T) {
	b, _ := mixed()
	r := newReader(t, api.Bare, 999)
	var puts [][]byte
	var before []string
	for _, piece := range inPieces(string(b), 3) {
		put, _ := r.Write([]byte(piece))
		puts = append(puts, put)
		before = append(before, string(put))
	}
	for i, put := range puts {
		if string(put) != before[i] {
			t.Fatalf("P2: what came out of Write %d was changed by another", i)
		}
		spoil(put)
	}
}

// What one reader is handed is nothing to another one, nor to an Unpack.
func TestReadersBesideEachOther(t *testing.T) {
	all, out := wrappedMixed()
	readers := []*bellows.Reader{newReader(t, 0, 999), newReader(t, 1, 999), newReader(t, 2, 999), newReader(t, 0, 5), newReader(t, 2, 999)}
	inputs := []string{all[0], all[1], all[2], all[0], all[2][:40] + "\xff" + all[2][41:]}
	got := make([]string, len(readers))
	for i := range len(all[2]) {
		for n, r := range readers {
			if i < len(inputs[n]) {
				put, _ := r.Write([]byte(inputs[n][i : i+1]))
				got[n] += string(put)
				spoil(put)
			}
		}
	}
	for n, r := range readers {
		want := bellows.Unpack([]int{0, 1, 2, 0, 2}[n], []byte(inputs[n]), []int{999, 999, 999, 5, 999}[n])
		done, used := r.Done()
		if got[n] != string(want.Out) || done != (want.Err == api.OK) || used != want.Used || r.Name() != want.Name {
			t.Errorf("P2, P8: reader %d: %q, %v, %d, %q, want %+v", n, got[n], done, used, r.Name(), want)
		}
	}
	if got[0] != out || got[3] != out[:5] {
		t.Errorf("P8: %q and %q were put out", got[0], got[3])
	}
}
