package bare

import (
	"bytes"
	"math/rand"
	"strings"
	"testing"

	"bellows/api"
	"bellows/copies"
	"bellows/feed"
)

// unpacked holds bytes that were packed against what they were.
func unpacked(t *testing.T, packed, want []byte) {
	t.Helper()
	from := feed.New(packed)
	out, err := New(from, api.MostOut).Run()
	if err != api.OK || !bytes.Equal(out, want) || from.Used() != len(packed) {
		t.Errorf("P9: %d bytes became %d, with error %d, and %d of %d were read",
			len(want), len(out), err, from.Used(), len(packed))
	}
}

// samples is bytes of many kinds.
func samples() [][]byte {
	source := rand.New(rand.NewSource(13))
	all := [][]byte{nil, {0}, {255}, []byte("ab"), bytes.Repeat([]byte("abc"), 3000)}
	for _, letters := range []int{1, 2, 3, 19, 256} {
		for _, size := range []int{3, 300, toldPieces, toldPieces + 1, 40000} {
			b := make([]byte, size)
			for i := range b {
				b[i] = byte(source.Intn(letters) * source.Intn(letters))
			}
			all = append(all, b)
		}
	}
	return all
}

// Bytes of which each comes as often as the two ahead of it (ahead of the first
// ones stands the end, which comes once) would have codes that are too long, if
// nothing held them back.
func TestCodesAreNotTooLong(t *testing.T) {
	var want []byte
	count, next := 1, 2
	for i := range 18 {
		want = append(want, bytes.Repeat([]byte{byte(i)}, count)...)
		count, next = next, count+next
	}
	var pieces []copies.Piece
	for _, b := range want {
		pieces = append(pieces, copies.Piece{Byte: b})
	}
	if len(pieces) > toldPieces {
		t.Fatalf("%d pieces are more than one block has", len(pieces))
	}
	unpacked(t, packTold(pieces), want)
}

func TestEveryTypeOfBlockUnpacks(t *testing.T) {
	for _, b := range samples() {
		pieces := copies.Find(b)
		unpacked(t, packStored(b), b)
		unpacked(t, packFixed(pieces), b)
		unpacked(t, packTold(pieces), b)
		unpacked(t, packBest(b), b)
	}
}

// Pieces that no finder would choose are written right, too.
func TestEveryPieceIsWritten(t *testing.T) {
	want := []byte{9}
	pieces := []copies.Piece{{Byte: 9}}
	for length := 3; length <= 258; length++ {
		next := copies.Piece{Length: length, Distance: min(len(want), 1+length*length/2, api.Window)}
		pieces = append(pieces, next, copies.Piece{Byte: byte(length)})
		for range length {
			want = append(want, want[len(want)-next.Distance])
		}
		want = append(want, byte(length))
	}
	unpacked(t, packFixed(pieces), want)
	unpacked(t, packTold(pieces), want)
}

func TestCodesWithoutDistances(t *testing.T) {
	for _, text := range []string{"", "a", "abcdefghi", "\x00\xff"} {
		pieces := copies.Find([]byte(text))
		unpacked(t, packTold(pieces), []byte(text))
	}
}

func TestBestSuitsTheBytes(t *testing.T) {
	random := make([]byte, 5000)
	rand.New(rand.NewSource(14)).Read(random)
	letters := make([]byte, 5000)
	for i, b := range random {
		letters[i] = "aeio"[b%4]
	}
	for kind, b := range [][]byte{typeStored: random, typeFixed: []byte("a few"), typeTold: letters} {
		if got := int(packBest(b)[0] >> 1 & 3); got != kind {
			t.Errorf("P9: %.10q is packed in blocks of type %d, not %d", b, got, kind)
		}
	}
	if told, fixed := len(packBest(letters)), len(Pack(api.Fixed, letters)); told > fixed*3/4 {
		t.Errorf("P9: 5000 of four letters take %d bytes with codes of their own, and %d with fixed ones", told, fixed)
	}
}

func TestCopiesArePacked(t *testing.T) {
	b := []byte(strings.Repeat("all that is said twice need be said once. ", 1000))
	for way, most := range map[int]int{api.Fixed: 700, api.Best: 400} {
		if size := len(Pack(way, b)); size > most {
			t.Errorf("P9: way %d: %d bytes take %d", way, len(b), size)
		}
	}
}

func TestInBlocks(t *testing.T) {
	for text, want := range map[string]string{"": "|", "a": "a|", "abc": "abc|", "abcd": "abc,d|", "abcdef": "abc,def|", "abcdefg": "abc,def,g|"} {
		got := ""
		inBlocks([]byte(text), 3, func(part []byte, last bool) {
			got += string(part) + map[bool]string{true: "|", false: ","}[last]
		})
		if got != want {
			t.Errorf("P9: %q in blocks is %q", text, got)
		}
	}
}
