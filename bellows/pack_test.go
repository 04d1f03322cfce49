package bellows_test

import (
	"bytes"
	"math"
	"math/rand"
	"strings"
	"testing"

	"bellows/api"
	"bellows/bellows"
)

// moreOf is how many bytes a kind has beside what is bare.
var moreOf = []int{api.Bare: 0, api.Zlib: 6, api.Gzip: 18}

// pack packs what may be packed.
func pack(t *testing.T, kind, way int, b string) []byte {
	t.Helper()
	p, err := bellows.Pack(kind, way, []byte(b))
	if err != api.OK {
		t.Fatalf("P9: Pack(%d, %d, %.20q of %d): %d", kind, way, b, len(b), err)
	}
	return p
}

// packs packs in each kind and way, and holds that against all that is promised.
func packs(t *testing.T, b string) {
	t.Helper()
	for kind, more := range moreOf {
		stored := pack(t, kind, api.Stored, b)
		fixed := pack(t, kind, api.Fixed, b)
		best := pack(t, kind, api.Best, b)
		if want := 5*max(1, (len(b)+65534)/65535) + len(b) + more; len(stored) != want {
			t.Errorf("P9: kind %d, %d bytes stored are %d, not %d", kind, len(b), len(stored), want)
		}
		if most := (9*len(b)+10+7)/8 + more; len(fixed) > most {
			t.Errorf("P9: kind %d, %d bytes with fixed codes are %d, above %d", kind, len(b), len(fixed), most)
		}
		if most := min(len(stored), len(fixed)); len(best) > most {
			t.Errorf("P9: kind %d, %d bytes at best are %d, above %d", kind, len(b), len(best), most)
		}
		for _, p := range [][]byte{stored, fixed, best} {
			unpacks(t, "P9", kind, string(p), len(b), api.Result{Out: []byte(b), Used: len(p)})
		}
	}
}

// random is so many bytes of so many letters.
func random(source *rand.Rand, size, letters int) string {
	b := make([]byte, size)
	for i := range b {
		b[i] = byte(source.Intn(letters))
	}
	return string(b)
}

func TestPackOrdinary(t *testing.T) {
	source := rand.New(rand.NewSource(15))
	for _, b := range []string{
		"a", "ab", "aaa", "aaaa", "hello, hello, hello",
		strings.Repeat("a", 257), strings.Repeat("a", 258), strings.Repeat("a", 259), strings.Repeat("a", 260),
		strings.Repeat("\x00", 1000), strings.Repeat("\xff", 1000), strings.Repeat("abcab", 3000),
	} {
		packs(t, b)
	}
	for i := range 256 {
		packs(t, string([]byte{byte(i)}))
	}
	for range 100 {
		packs(t, random(source, source.Intn(2000), 1+source.Intn(256)))
	}
}

// Bytes from 144 on take nine bits: a Fixed has no room left if none is repeated.
func TestPackOfTheDearestBytes(t *testing.T) {
	var all []byte
	for i := 144; i < 256; i++ {
		all = append(all, byte(i))
	}
	for n := range all {
		packs(t, string(all[:n]))
		if got, want := len(pack(t, api.Bare, api.Fixed, string(all[:n]))), (9*n+10+7)/8; got != want {
			t.Errorf("P9: %d bytes of nine bits are %d, not %d", n, got, want)
		}
	}
}

func TestPackEdges(t *testing.T) {
	source := rand.New(rand.NewSource(16))
	packs(t, "")
	for _, size := range []int{32767, 32768, 32769, 65534, 65535, 65536, 131070, 131071} {
		packs(t, random(source, size, 256))
		packs(t, random(source, size, 4))
		packs(t, strings.Repeat("\xfe", size))
	}
}

func TestPackAsMuchAsMayBe(t *testing.T) {
	text := random(rand.New(rand.NewSource(17)), 1000, 256)
	all := strings.Repeat(text, 1049)
	for _, size := range []int{1048575, 1048576} {
		packs(t, all[:size])
	}
	for kind := range 3 {
		for way := range 3 {
			for _, size := range []int{1048577, 1048578, len(all)} {
				if p, err := bellows.Pack(kind, way, []byte(all[:size])); err != api.ErrMuch || len(p) != 0 {
					t.Errorf("P9: Pack(%d, %d) of %d bytes: %d, %d bytes", kind, way, size, err, len(p))
				}
			}
		}
	}
}

// Of what is repeated far behind, nothing may be copied that is too far.
func TestPackReachesBackAsFarAsMayBe(t *testing.T) {
	source := rand.New(rand.NewSource(18))
	for _, distance := range []int{32767, 32768, 32769} {
		text := random(source, distance, 256)
		packs(t, text+text[:300])
	}
}

func TestPackedIsUnpackedForAnyMost(t *testing.T) {
	b := "asked for are as many as there are, asked for are more"
	for kind := range 3 {
		for way := range 3 {
			p := string(pack(t, kind, way, b))
			for _, most := range []int{len(b), len(b) + 1, 65535, 1048576, 1048577, math.MaxInt} {
				unpacks(t, "P9", kind, p, most, api.Result{Out: []byte(b), Used: len(p)})
			}
			unpacks(t, "P9", kind, p, len(b)-1, fails(api.ErrMuch, b[:len(b)-1], ""))
		}
	}
}

func TestPackRefuses(t *testing.T) {
	wrong := []int{math.MinInt, -2, -1, 3, 4, 256, 1 << 32, math.MaxInt}
	much := make([]byte, 1048577)
	for _, b := range [][]byte{nil, []byte("a"), much} {
		for _, x := range wrong {
			for _, y := range append([]int{0, 1, 2}, wrong...) {
				refuses(t, x, y, b, api.ErrKind)
			}
			for kind := range 3 {
				refuses(t, kind, x, b, api.ErrWay)
			}
		}
	}
}

func refuses(t *testing.T, kind, way int, b []byte, want api.Errno) {
	t.Helper()
	if p, err := bellows.Pack(kind, way, b); err != want || len(p) != 0 {
		t.Errorf("P1, P9: Pack(%d, %d) of %d bytes: %d, %d bytes, want %d", kind, way, len(b), err, len(p), want)
	}
}

func TestPackOfWhatIsHandedIn(t *testing.T) {
	text := strings.Repeat("nothing of it is kept, ", 20)
	for kind := range 3 {
		for way := range 3 {
			room := append([]byte(text), 1, 2, 3, 4)
			before := bytes.Clone(room)
			first, _ := bellows.Pack(kind, way, room[:len(text)])
			if !bytes.Equal(room, before) {
				t.Errorf("P2: Pack(%d, %d) wrote into what was handed in", kind, way)
			}
			want := bytes.Clone(first)
			clear(room)
			if !bytes.Equal(first, want) {
				t.Errorf("P2: Pack(%d, %d) kept what was handed in", kind, way)
			}
			second := pack(t, kind, way, text)
			if !bytes.Equal(second, want) {
				t.Errorf("P2: Pack(%d, %d) answers otherwise the second time", kind, way)
			}
			first = first[:cap(first)]
			for i := range first {
				first[i] = 'z'
			}
			if !bytes.Equal(second, want) || !bytes.Equal(pack(t, kind, way, text), want) {
				t.Errorf("P2: Pack(%d, %d): what came out is not new", kind, way)
			}
		}
	}
}

func TestPackOfNil(t *testing.T) {
	for kind := range 3 {
		for way := range 3 {
			p, err := bellows.Pack(kind, way, nil)
			if err != api.OK || !bytes.Equal(p, pack(t, kind, way, "")) {
				t.Errorf("P9: Pack(%d, %d, nil): %d, %x", kind, way, err, p)
			}
		}
	}
}
