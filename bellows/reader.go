package bellows

import (
	"bellows/api"
	"bellows/feed"
	"bellows/wrap"
)

// Reader unpacks bytes that come in pieces.
type Reader struct {
	from    *feed.Feed
	decoder *wrap.Decoder // nil, if nothing that may come changes the answer
	now     api.Result    // of all bytes so far, without what was put out
}

// NewReader makes a reader (P8).
func NewReader(kind int, most int) (*Reader, api.Errno) {
	from := feed.New(nil)
	decoder, err := wrap.New(kind, from, askedFor(most))
	if err != api.OK {
		return nil, err
	}
	// no kind is whole without a byte
	return &Reader{from: from, decoder: decoder, now: api.Result{Err: api.ErrEnd}}, api.OK
}

// Write gives a reader more bytes; what they put out (P8).
func (r *Reader) Write(b []byte) ([]byte, api.Errno) {
	if r.decoder == nil {
		return nil, r.now.Err
	}
	r.from.Add(b)
	result := goOn(r.decoder, r.from)
	r.keep(result)
	if result.Err == api.ErrEnd {
		return result.Out, api.OK
	}
	return result.Out, result.Err
}

// keep keeps of an answer what may be asked for, and of what was handed in what
// has to be read anew: nothing, if no more is read.
func (r *Reader) keep(result api.Result) {
	result.Out = nil
	r.now = result
	if result.Err == api.ErrEnd {
		r.from.Forget()
	} else {
		r.from, r.decoder = nil, nil
	}
}

// Done tells whether all was unpacked, and how many bytes that took (P8).
func (r *Reader) Done() (bool, int) {
	return r.now.Err == api.OK, r.now.Used
}

// Name tells the name that was found (P8).
func (r *Reader) Name() string {
	return r.now.Name
}
