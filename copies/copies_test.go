package copies

import (
	"math/rand"
	"slices"
	"strings"
	"testing"

	"bellows/api"
)

// rebuilt puts out what pieces are of, and holds them against their bounds.
func rebuilt(t *testing.T, pieces []Piece) string {
	t.Helper()
	var out []byte
	for _, p := range pieces {
		if p.Length == 0 {
			out = append(out, p.Byte)
			continue
		}
		if p.Length < 3 || p.Length > 258 || p.Distance < 1 || p.Distance > min(len(out), 32768) {
			t.Fatalf("P9: a copy of %d bytes from %d, behind %d", p.Length, p.Distance, len(out))
		}
		for range p.Length {
			out = append(out, out[len(out)-p.Distance])
		}
	}
	return string(out)
}

func TestPiecesMakeTheBytes(t *testing.T) {
	source := rand.New(rand.NewSource(11))
	for range 300 {
		all := make([]byte, source.Intn(2000))
		letters := 1 + source.Intn(256)
		for i := range all {
			all[i] = byte(source.Intn(letters))
		}
		for range source.Intn(10) {
			from, to := source.Intn(len(all)+1), source.Intn(len(all)+1)
			copy(all[to:], slices.Clone(all[from:]))
		}
		if got := rebuilt(t, Find(all)); got != string(all) {
			t.Fatalf("P9: pieces of %q make %q", all, got)
		}
	}
}

func TestFoundPieces(t *testing.T) {
	literal := func(text string) []Piece {
		var pieces []Piece
		for i := range len(text) {
			pieces = append(pieces, Piece{Byte: text[i]})
		}
		return pieces
	}
	near := []Piece{{Length: 3, Distance: 4}}
	for _, c := range []struct {
		text string
		want []Piece
	}{
		{"", nil},
		{"a", literal("a")},
		{"aaa", literal("aaa")},
		{"aaaa", append(literal("a"), Piece{Length: 3, Distance: 1})},
		{"abab", literal("abab")},
		{"abcabc", append(literal("abc"), Piece{Length: 3, Distance: 3})},
		{"abcdeabXabcde", append(literal("abcdeabX"), Piece{Length: 5, Distance: 8})},
		// of two that are as long the nearest one
		{"abcXabcYabcZ", slices.Concat(literal("abcX"), near, literal("Y"), near, literal("Z"))},
		// a longer one that begins behind the next byte is better
		{"abcXbcdefYabcdef", append(literal("abcXbcdefYa"), Piece{Length: 5, Distance: 7})},
	} {
		if got := Find([]byte(c.text)); !slices.Equal(got, c.want) {
			t.Errorf("P9: pieces of %q: %v", c.text, got)
		}
	}
}

func TestCopiesAreNoLongerThanMayBe(t *testing.T) {
	for _, more := range []int{257, 258, 259, 260, 261, 516, 517} {
		text := strings.Repeat("a", 1+more)
		pieces := Find([]byte(text))
		if got := rebuilt(t, pieces); got != text {
			t.Errorf("P9: %d bytes became %d", len(text), len(got))
		}
		if want := (Piece{Length: min(more, 258), Distance: 1}); pieces[1] != want {
			t.Errorf("P9: the second piece of %d bytes is %v", len(text), pieces[1])
		}
	}
}

// apart is two texts that are the same, the second one so far behind the first,
// with nothing between them that repeats at length.
func apart(text string, distance int) []byte {
	all := []byte(text)
	for i := 0; len(all) < distance; i++ {
		all = append(all, byte(i), byte(i>>8)|128)
	}
	return append(all[:distance], text...)
}

func TestCopiesReachBackAsFarAsMayBe(t *testing.T) {
	for distance, want := range map[int]Piece{
		api.Window - 1: {Length: 6, Distance: api.Window - 1},
		api.Window:     {Length: 6, Distance: api.Window},
		api.Window + 1: {Byte: 'z'},
	} {
		all := apart("\x05\x05\x05\x05\x05z", distance)
		pieces := Find(all)
		if got := rebuilt(t, pieces); got != string(all) {
			t.Fatalf("P9: %d bytes became others", len(all))
		}
		if got := pieces[len(pieces)-1]; got != want {
			t.Errorf("P9: the last piece, from %d back: %v", distance, got)
		}
	}
}

func TestShortCopiesFromAfarDoNotPay(t *testing.T) {
	for distance, want := range map[int]Piece{
		4096: {Length: 3, Distance: 4096},
		4097: {Byte: '*'},
	} {
		pieces := Find(apart("\x7f\x7f*", distance))
		if got := pieces[len(pieces)-1]; got != want {
			t.Errorf("P9: the last piece, from %d back: %v", distance, got)
		}
	}
}
