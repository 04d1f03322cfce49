// Package bare unpacks and packs what has no wrapping: blocks, one after the other.
package bare

import (
	"bellows/api"
	"bellows/feed"
)

// place is where a decoder stands between two whole things.
type place int

const (
	atHead place = iota
	inStored
	inSymbols
	atEnd
)

// The types of blocks.
const (
	typeStored = 0
	typeFixed  = 1
	typeTold   = 2
)

// mostStored is how many bytes a block of type 0 may have.
const mostStored = 65535

// Decoder unpacks one whole thing after the other: a block's head, a stored
// byte, or a symbol with all that belongs to it. Nothing of a thing is put out
// before all of it was read, so that one that is not whole can be read anew.
type Decoder struct {
	from  *feed.Feed
	out   output
	place place
	last  bool    // is the block the last one?
	left  int     // how many bytes of a stored block are still to come
	now   coding  // of the block
	fixed *coding // kept, as a fixed block may be as short as ten bits
}

// New makes a decoder that puts out at most so many bytes.
func New(from *feed.Feed, most int) *Decoder {
	return &Decoder{from: from, out: output{room: most}}
}

// Run unpacks up to the end of the last block, or to what is wrong, and hands
// out what it has put out on the way. Behind an early end it can be run again,
// when more has come.
func (d *Decoder) Run() ([]byte, api.Errno) {
	err := d.run()
	return d.out.take(), err
}

func (d *Decoder) run() api.Errno {
	step := d.step
	for d.place != atEnd {
		if err := d.from.Whole(step); err != api.OK {
			return err
		}
	}
	return api.OK
}

func (d *Decoder) step() api.Errno {
	switch d.place {
	case inStored:
		return d.storedByte()
	case inSymbols:
		return d.symbol()
	default:
		return d.head()
	}
}

func (d *Decoder) head() api.Errno {
	d.last = d.from.Bit() == 1
	switch d.from.Number(2) {
	case typeStored:
		return d.storedHead()
	case typeFixed:
		return d.fixedHead()
	case typeTold:
		return d.toldHead()
	default:
		return api.ErrBlock
	}
}

func (d *Decoder) storedHead() api.Errno {
	d.from.PassByte()
	size := d.from.Number(16)
	if d.from.Number(16) != mostStored-size {
		return api.ErrStored
	}
	d.left = size
	d.place = inStored
	return api.OK
}

func (d *Decoder) fixedHead() api.Errno {
	if d.fixed == nil {
		d.fixed = fixedCoding()
	}
	d.now = *d.fixed
	d.place = inSymbols
	return api.OK
}

func (d *Decoder) toldHead() api.Errno {
	told, err := readCoding(d.from)
	if err != api.OK {
		return err
	}
	d.now = told
	d.place = inSymbols
	return api.OK
}

func (d *Decoder) endBlock() api.Errno {
	d.place = atHead
	if d.last {
		d.from.PassByte()
		d.place = atEnd
	}
	return api.OK
}

func (d *Decoder) storedByte() api.Errno {
	if d.left == 0 {
		return d.endBlock()
	}
	read := byte(d.from.Number(8))
	d.left--
	return d.out.put(read)
}

func (d *Decoder) symbol() api.Errno {
	symbol, err := d.now.symbols.Read(d.from)
	switch {
	case err != api.OK:
		return err
	case symbol < endSymbol:
		return d.out.put(byte(symbol))
	case symbol == endSymbol:
		return d.endBlock()
	default:
		return d.copyBack(symbol)
	}
}

func (d *Decoder) copyBack(symbol int) api.Errno {
	length, err := readLength(d.from, symbol)
	if err != api.OK {
		return err
	}
	distance, err := readDistance(d.from, d.now.distances)
	if err != api.OK {
		return err
	}
	// no code tells a distance beyond the window: so it holds all that may be meant
	window := d.out.window()
	if distance > len(window) {
		return api.ErrFar
	}
	return d.out.put(stretched(window[len(window)-distance:], length)...)
}
