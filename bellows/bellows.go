// Package bellows: bytes are packed and unpacked: see DOC.md.
package bellows

import (
	"bellows/api"
	"bellows/bare"
	"bellows/feed"
	"bellows/wrap"
)

// Unpack unpacks bytes (P3 to P7).
func Unpack(kind int, b []byte, most int) api.Result {
	from := feed.New(b)
	decoder, err := wrap.New(kind, from, askedFor(most))
	if err != api.OK {
		return api.Result{Err: err}
	}
	err = decoder.Run()
	result := api.Result{Err: err, Out: decoder.Out(), Name: decoder.Name()}
	if err == api.OK {
		result.Used = from.Used()
	}
	return result
}

// askedFor brings a number of bytes into the bounds of what may be asked for.
func askedFor(most int) int {
	return min(max(most, 0), api.MostOut)
}

// Pack packs bytes (P9).
func Pack(kind int, way int, b []byte) ([]byte, api.Errno) {
	switch {
	case kind < api.Bare || kind > api.Gzip:
		return nil, api.ErrKind
	case way < api.Stored || way > api.Best:
		return nil, api.ErrWay
	case len(b) > api.MostOut:
		return nil, api.ErrMuch
	}
	return wrap.Around(kind, bare.Pack(way, b), b), api.OK
}

// Reader unpacks bytes that come in pieces.
type Reader struct{}

// NewReader makes a reader (P8).
func NewReader(kind int, most int) (*Reader, api.Errno) { return nil, api.OK }

// Write gives a reader more bytes; what they put out (P8).
func (r *Reader) Write(b []byte) ([]byte, api.Errno) { return nil, api.OK }

// Done tells whether all was unpacked, and how many bytes that took (P8).
func (r *Reader) Done() (bool, int) { return false, 0 }

// Name tells the name that was found (P8).
func (r *Reader) Name() string { return "" }
