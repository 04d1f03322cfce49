package bellows_test

import (
	"bytes"
	"math/rand"
	"reflect"
	"strings"
	"testing"

	"bellows/api"
	"bellows/bellows"
)

// bareA is bare: "a".
const bareA = "\x4b\x04\x00"

// unpacks holds an Unpack of any kind against what is wanted.
func unpacks(t *testing.T, promise string, kind int, b string, most int, want api.Result) {
	t.Helper()
	got := bellows.Unpack(kind, []byte(b), most)
	if got.Err != want.Err || string(got.Out) != string(want.Out) || got.Used != want.Used || got.Name != want.Name {
		t.Errorf("%s: Unpack(%d, %.60x, %d) = %d, %.60q, %d, %q, want %d, %.60q, %d, %q", promise, kind, b, most,
			got.Err, got.Out, got.Used, got.Name, want.Err, want.Out, want.Used, want.Name)
	}
}

// fails is what an error answers, with what was put out ahead of it and a name.
func fails(err api.Errno, out, name string) api.Result {
	return api.Result{Err: err, Out: []byte(out), Name: name}
}

// sumOf is the sum as the document tells it, the highest byte first.
func sumOf(out string) string {
	a, b := 1, 0
	for i := range len(out) {
		a = (a + int(out[i])) % 65521
		b = (b + a) % 65521
	}
	return string([]byte{byte(b >> 8), byte(b), byte(a >> 8), byte(a)})
}

// checkOf is the check as the document tells it, the lowest byte first.
func checkOf(s string) string {
	c := uint32(1<<32 - 1)
	for i := range len(s) {
		c ^= uint32(s[i])
		for range 8 {
			odd := c%2 == 1
			c /= 2
			if odd {
				c ^= 0xEDB88320
			}
		}
	}
	c ^= 1<<32 - 1
	return long(int(c))
}

// long is four bytes, the lowest first.
func long(x int) string {
	return string([]byte{byte(x), byte(x >> 8), byte(x >> 16), byte(x >> 24)})
}

// wrappedMixed is the blocks of mixed in each of the kinds, by their numbers.
func wrappedMixed() ([]string, string) {
	b, out := mixed()
	return []string{
		string(b),
		"\x78\x9c" + string(b) + sumOf(out),
		gzipHead(31, "\x03\x00xyz"+"na\xefve\x00"+"a remark\x00", true) + string(b) + gzipTail(out),
	}, out
}

func TestWrappedBareIsReadAsBare(t *testing.T) {
	all, out := wrappedMixed()
	names := []string{"", "", "na\u00efve"}
	for kind, b := range all {
		for _, behind := range []string{"", "\x00", "\x78\x9c", b} {
			want := api.Result{Out: []byte(out), Used: len(b), Name: names[kind]}
			unpacks(t, "P3, P6, P7", kind, b+behind, len(out), want)
		}
		for most := range len(out) {
			unpacks(t, "P3, P6, P7", kind, b, most, fails(api.ErrMuch, out[:most], names[kind]))
		}
	}
}

// What is wrong does not hang on what stands behind, in any kind.
func TestPiecesOfWrappedTellTheSame(t *testing.T) {
	all, _ := wrappedMixed()
	source := rand.New(rand.NewSource(9))
	for kind, good := range all {
		for range 100 {
			b := []byte(good)
			b[source.Intn(len(b))] ^= 1 << source.Intn(8)
			whole := bellows.Unpack(kind, b, 1000)
			for n := range b {
				piece := bellows.Unpack(kind, b[:n], 1000)
				if piece.Err == api.ErrEnd && bytes.HasPrefix(whole.Out, piece.Out) && strings.HasPrefix(whole.Name, piece.Name) {
					continue
				}
				if !reflect.DeepEqual(piece, whole) {
					t.Fatalf("P3: kind %d, %x: %d bytes of it: %+v, all: %+v", kind, b, n, piece, whole)
				}
			}
		}
	}
}

// Every byte of a sum, of a check and of a size counts.
func TestEverySpoiledTail(t *testing.T) {
	all, out := wrappedMixed()
	for kind, tail := range []int{api.Bare: 0, api.Zlib: 4, api.Gzip: 8} {
		good := all[kind]
		for i := len(good) - tail; i < len(good); i++ {
			for bit := range 8 {
				b := []byte(good)
				b[i] ^= 1 << bit
				got := bellows.Unpack(kind, b, 1000)
				if got.Err != api.ErrSum || got.Used != 0 || string(got.Out) != out {
					t.Errorf("P6, P7: kind %d, byte %d of %d, bit %d: %d", kind, i, len(good), bit, got.Err)
				}
			}
		}
	}
}

func TestWrappedIsNotWrittenInto(t *testing.T) {
	all, out := wrappedMixed()
	for kind, b := range all {
		room := append([]byte(b), 1, 2, 3, 4)
		before := bytes.Clone(room)
		got := bellows.Unpack(kind, room[:len(b)], len(out))
		if !bytes.Equal(room, before) {
			t.Errorf("P2: kind %d: what was handed in was written into", kind)
		}
		clear(room)
		if string(got.Out) != out || got.Name != "" && got.Name != "na\u00efve" {
			t.Errorf("P2: kind %d: what was handed in is kept", kind)
		}
	}
}

func TestEveryShortWrappedInputEnds(t *testing.T) {
	for _, kind := range []int{api.Zlib, api.Gzip} {
		for i := range 1 << 16 {
			for _, b := range [][]byte{{byte(i)}, {byte(i), byte(i >> 8)}} {
				got := bellows.Unpack(kind, b, i%3)
				if got.Err != api.ErrEnd && got.Err != api.ErrHead || len(got.Out) != 0 || got.Used != 0 || got.Name != "" {
					t.Fatalf("P1, P3: Unpack(%d, %x) = %+v", kind, b, got)
				}
			}
		}
	}
}
