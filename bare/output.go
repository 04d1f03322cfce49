package bare

import "bellows/api"

// output is what was put out, and how much of it was asked for.
type output struct {
	all  []byte
	most int
}

// put puts bytes out as far as they were asked for; ErrMuch, if not all were.
func (o *output) put(bytes ...byte) api.Errno {
	room := o.most - len(o.all)
	if len(bytes) > room {
		o.all = append(o.all, bytes[:room]...)
		return api.ErrMuch
	}
	o.all = append(o.all, bytes...)
	return api.OK
}

// window hands on what was put out last, as far as a copy may reach back. Its
// room ends with it: who appends to it does not write into what lies behind.
func (o *output) window() []byte {
	end := len(o.all)
	return o.all[max(0, end-api.Window):end:end]
}

// stretched lays a piece of the window behind itself until it is long enough:
// a copy that is longer than its distance reads what it has put out itself.
func stretched(piece []byte, length int) []byte {
	for len(piece) < length {
		piece = append(piece, piece...)
	}
	return piece[:length]
}
