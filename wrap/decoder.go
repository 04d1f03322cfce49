// Package wrap unpacks one of a kind, what is bare and what stands around it, and
// puts that around.
package wrap

import (
	"bellows/api"
	"bellows/bare"
	"bellows/feed"
)

// part reads the next whole thing of a part; true, if the part ends with it.
// It keeps nothing of a thing before all of it was read, so that one that is not
// whole can be read anew.
type part func() (bool, api.Errno)

// Decoder unpacks one part after the other.
type Decoder struct {
	from  *feed.Feed
	inner *bare.Decoder
	parts []part // that are to come, the first one perhaps begun
	out   []byte // what this run has put out
	name  string
}

// New makes a decoder of a kind that puts out at most so many bytes.
func New(kind int, from *feed.Feed, most int) (*Decoder, api.Errno) {
	d := &Decoder{from: from, inner: bare.New(from, most)}
	switch kind {
	case api.Bare:
		d.parts = []part{d.bare}
	case api.Zlib:
		d.parts = zlibParts(d)
	case api.Gzip:
		d.parts = gzipParts(d)
	default:
		return nil, api.ErrKind
	}
	return d, api.OK
}

// Name is the name, if it was read to its end.
func (d *Decoder) Name() string {
	return d.name
}

// Run unpacks up to the end of the last part, or to what is wrong, and hands out
// what it has put out on the way. Behind an early end it can be run again, when
// more has come.
func (d *Decoder) Run() ([]byte, api.Errno) {
	err := d.run()
	out := d.out
	d.out = nil
	return out, err
}

func (d *Decoder) run() api.Errno {
	step := d.step
	for len(d.parts) > 0 {
		if err := d.from.Whole(step); err != api.OK {
			return err
		}
	}
	return api.OK
}

func (d *Decoder) step() api.Errno {
	through, err := d.parts[0]()
	if through {
		d.parts = d.parts[1:]
	}
	return err
}

// bare is a part of many whole things: at an early end it has gone back to the
// last of them by itself, and the part is not through. That ends the run: so a
// run comes here once at most.
func (d *Decoder) bare() (through bool, err api.Errno) {
	d.out, err = d.inner.Run()
	return err == api.OK, err
}

// holds is a whole part that must be right: if it is not, that is the error.
func holds(right bool, err api.Errno) (bool, api.Errno) {
	if right {
		err = api.OK
	}
	return true, err
}
