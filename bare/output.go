package bare

import (
	"slices"

	"bellows/api"
)

// mostKept is how much of what was put out stays at most when it is taken: more
// than a window, or each byte that comes alone would move a whole one.
const mostKept = 2 * api.Window

// output is what was put out last, and how much more was asked for.
type output struct {
	kept  []byte // a window of it at least, and all that was not taken yet
	fresh int    // how many of these were not taken yet
	room  int    // how many more were asked for
}

// put puts bytes out as far as they were asked for; ErrMuch, if not all were.
func (o *output) put(bytes ...byte) api.Errno {
	asked := min(len(bytes), o.room)
	o.kept = append(o.kept, bytes[:asked]...)
	o.fresh += asked
	o.room -= asked
	if asked < len(bytes) {
		return api.ErrMuch
	}
	return api.OK
}

// take hands out what was put out since the last take. It is a copy, as copies
// will be taken from what is kept, whatever is done to what was handed out.
func (o *output) take() []byte {
	taken := slices.Clone(o.kept[len(o.kept)-o.fresh:])
	o.fresh = 0
	if len(o.kept) > mostKept {
		o.kept = slices.Clone(o.window())
	}
	return taken
}

// window hands on what was put out last, as far as a copy may reach back. Its
// room ends with it: who appends to it does not write into what lies behind.
func (o *output) window() []byte {
	end := len(o.kept)
	return o.kept[max(0, end-api.Window):end:end]
}

// stretched lays a piece of the window behind itself until it is long enough:
// a copy that is longer than its distance reads what it has put out itself.
func stretched(piece []byte, length int) []byte {
	for len(piece) < length {
		piece = append(piece, piece...)
	}
	return piece[:length]
}
