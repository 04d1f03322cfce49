// Package bellows: bytes are packed and unpacked: see DOC.md.
package bellows

import (
	"bellows/api"
	"bellows/bare"
	"bellows/feed"
	"bellows/wrap"
)

// Unpack unpacks bytes (P3 to P7).
func Unpack(kind int, b []byte, most int) api.Result {
	from := feed.New(b)
	decoder, err := wrap.New(kind, from, askedFor(most))
	if err != api.OK {
		return api.Result{Err: err}
	}
	return goOn(decoder, from)
}

// goOn unpacks what there is to read. Used counts from the very beginning, Out
// is only what was put out now.
func goOn(decoder *wrap.Decoder, from *feed.Feed) api.Result {
	out, err := decoder.Run()
	result := api.Result{Err: err, Out: out, Name: decoder.Name()}
	if err == api.OK {
		result.Used = from.Used()
	}
	return result
}

// askedFor brings a number of bytes into the bounds of what may be asked for.
func askedFor(most int) int {
	return min(max(most, 0), api.MostOut)
}

// Pack packs bytes (P9).
func Pack(kind int, way int, b []byte) ([]byte, api.Errno) {
	switch {
	case kind < api.Bare || kind > api.Gzip:
		return nil, api.ErrKind
	case way < api.Stored || way > api.Best:
		return nil, api.ErrWay
	case len(b) > api.MostOut:
		return nil, api.ErrMuch
	}
	return wrap.Around(kind, bare.Pack(way, b), b), api.OK
}
