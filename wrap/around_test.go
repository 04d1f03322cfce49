package wrap

import (
	"testing"

	"bellows/api"
	"bellows/feed"
)

func TestAround(t *testing.T) {
	for kind, want := range []string{
		api.Bare: "\x4b\x04\x00",
		api.Zlib: zlibA,
		api.Gzip: "\x1f\x8b\x08\x00\x00\x00\x00\x00\x00\x00\x4b\x04\x00\x43\xbe\xb7\xe8\x01\x00\x00\x00",
	} {
		if got := string(Around(kind, []byte("\x4b\x04\x00"), []byte("a"))); got != want {
			t.Errorf("P9: kind %d around \"a\" is %x", kind, got)
		}
	}
}

func TestWhatIsAroundIsReadAgain(t *testing.T) {
	b := make([]byte, 70000)
	for i := range b {
		b[i] = byte(i * i >> 5)
	}
	packed := []byte{0, 255, 255, 0, 0}
	packed = append(packed, b[:65535]...)
	packed = append(packed, 1, 113, 17, 142, 238)
	packed = append(packed, b[65535:]...)
	for kind := range 3 {
		around := Around(kind, packed, b)
		from := feed.New(around)
		d, _ := New(kind, from, len(b))
		if out, err := d.Run(); err != api.OK || string(out) != string(b) || from.Used() != len(around) || d.Name() != "" {
			t.Errorf("P9: kind %d: %d, %d bytes, %d of %d read, name %q",
				kind, err, len(out), from.Used(), len(around), d.Name())
		}
	}
}
