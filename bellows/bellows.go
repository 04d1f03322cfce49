// Package bellows: bytes are packed and unpacked: see DOC.md.
package bellows

import (
	"bellows/api"
	"bellows/bare"
	"bellows/feed"
)

// Unpack unpacks bytes (P3 to P7).
func Unpack(kind int, b []byte, most int) api.Result {
	switch kind {
	case api.Bare:
		return unpackBare(b, askedFor(most))
	case api.Zlib, api.Gzip:
		return api.Result{}
	default:
		return api.Result{Err: api.ErrKind}
	}
}

// askedFor brings a number of bytes into the bounds of what may be asked for.
func askedFor(most int) int {
	return min(max(most, 0), api.MostOut)
}

func unpackBare(b []byte, most int) api.Result {
	from := feed.New(b)
	decoder := bare.New(from, most)
	err := decoder.Run()
	result := api.Result{Err: err, Out: decoder.Out()}
	if err == api.OK {
		result.Used = from.Used()
	}
	return result
}

// Pack packs bytes (P9).
func Pack(kind int, way int, b []byte) ([]byte, api.Errno) { return nil, api.OK }

// Reader unpacks bytes that come in pieces.
type Reader struct{}

// NewReader makes a reader (P8).
func NewReader(kind int, most int) (*Reader, api.Errno) { return nil, api.OK }

// Write gives a reader more bytes; what they put out (P8).
func (r *Reader) Write(b []byte) ([]byte, api.Errno) { return nil, api.OK }

// Done tells whether all was unpacked, and how many bytes that took (P8).
func (r *Reader) Done() (bool, int) { return false, 0 }

// Name tells the name that was found (P8).
func (r *Reader) Name() string { return "" }
