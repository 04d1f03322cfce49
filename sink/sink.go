// Package sink gathers bits into bytes, as a feed reads them.
package sink

// Sink is what was written so far; one that nothing was done to is empty.
type Sink struct {
	out  []byte
	room int // how many bits of the last byte are not written yet
}

// Bit writes one bit.
func (s *Sink) Bit(bit int) {
	if s.room == 0 {
		s.out = append(s.out, 0)
		s.room = 8
	}
	s.out[len(s.out)-1] |= byte(bit) << (8 - s.room)
	s.room--
}

// Number writes a number of so many bits. On a byte's beginning one of 16 bits
// is a word and one of 32 a long.
func (s *Sink) Number(number, bits int) {
	for i := range bits {
		s.Bit(number >> i & 1)
	}
}

// Fill leaves what is left of the last byte noughts.
func (s *Sink) Fill() {
	s.room = 0
}

// Bytes writes bytes, from a byte's beginning on.
func (s *Sink) Bytes(bytes ...byte) {
	s.Fill()
	s.out = append(s.out, bytes...)
}

// Out is what was written.
func (s *Sink) Out() []byte {
	return s.out
}
