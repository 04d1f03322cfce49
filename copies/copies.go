// Package copies finds what bytes repeat of those ahead of them.
package copies

import (
	"iter"
	"slices"

	"bellows/api"
)

// Piece is one byte, or a copy of bytes that stand so far ahead.
type Piece struct {
	Byte     byte // if it is no copy
	Length   int  // 0, if it is no copy
	Distance int
}

// The lengths that a copy may have.
const (
	Shortest = 3
	Longest  = 258
)

const (
	// a copy of the shortest length from farther away takes more bits than its bytes
	farForShortest = 4096
	// the search ends after so many places, as it would take too long for
	// bytes in which the same comes very often
	mostPlaces = 64
	// a copy of this length is taken without a look at the next place
	goodLength = 32
)

// Find tells which pieces bytes are made of, one behind the other.
func Find(all []byte) []Piece {
	var pieces []Piece
	f := newFinder(all)
	for at := 0; at < len(all); {
		piece := f.next(at)
		pieces = append(pieces, piece)
		at += max(1, piece.Length)
	}
	return pieces
}

// none is what stands for a place where there is none.
const none = -1

// How many slots there are for places, told in bits.
const slotBits = 15

// finder knows at which places the same bytes may have begun.
type finder struct {
	all   []byte
	noted int   // how many places are in the slots
	last  []int // by the slot: the place that came into it last
	ahead []int // by the place: the one that was in its slot ahead of it
}

func newFinder(all []byte) *finder {
	return &finder{
		all:   all,
		last:  slices.Repeat([]int{none}, 1<<slotBits),
		ahead: make([]int, len(all)),
	}
}

// next tells the piece at a place. That is a byte although there is a copy, if
// the copy that begins behind the byte is a longer one.
func (f *finder) next(at int) Piece {
	piece := f.copyAt(at)
	if piece.Length == 0 || piece.Length >= goodLength {
		return piece
	}
	if f.copyAt(at+1).Length > piece.Length {
		return Piece{Byte: f.all[at]}
	}
	return piece
}

// copyAt tells the longest copy at a place, of these the nearest; or the byte.
func (f *finder) copyAt(at int) Piece {
	f.note(at)
	best := Piece{Byte: f.all[at]}
	most := min(Longest, len(f.all)-at)
	for place := range f.places(at) {
		length := f.common(place, at, most)
		if length > best.Length && pays(length, at-place) {
			best = Piece{Length: length, Distance: at - place}
		}
		if length == most {
			break
		}
	}
	return best
}

// pays tells whether a copy takes fewer bits than its bytes.
func pays(length, distance int) bool {
	return length > Shortest || length == Shortest && distance <= farForShortest
}

// common counts the bytes that are the same from two places on.
func (f *finder) common(place, at, most int) int {
	length := 0
	for length < most && f.all[place+length] == f.all[at+length] {
		length++
	}
	return length
}

// note brings all places ahead of one into their slots.
func (f *finder) note(end int) {
	for ; f.noted < end; f.noted++ {
		if slot, found := f.slot(f.noted); found {
			f.ahead[f.noted] = f.last[slot]
			f.last[slot] = f.noted
		}
	}
}

// places goes through those from which a copy may be taken, the nearest first.
func (f *finder) places(at int) iter.Seq[int] {
	return func(give func(int) bool) {
		slot, found := f.slot(at)
		if !found {
			return
		}
		place := f.last[slot]
		for range mostPlaces {
			if place == none || at-place > api.Window || !give(place) {
				return
			}
			place = f.ahead[place]
		}
	}
}

// slot tells where a place belongs by the bytes of the shortest copy there;
// false, if there are not so many. Other bytes may have the same slot.
func (f *finder) slot(at int) (int, bool) {
	if at+Shortest > len(f.all) {
		return 0, false
	}
	bytes := uint32(f.all[at]) | uint32(f.all[at+1])<<8 | uint32(f.all[at+2])<<16
	// by a great odd number all bits have a hand in the highest ones
	return int(bytes * 0x9E3779B1 >> (32 - slotBits)), true
}
