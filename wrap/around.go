package wrap

import (
	"bellows/api"
	"bellows/sink"
	"bellows/sums"
)

// Around puts what stands in one of the kinds around bytes that are packed bare.
func Around(kind int, packed, b []byte) []byte {
	to := &sink.Sink{}
	switch kind {
	case api.Zlib:
		aroundZlib(to, packed, b)
	case api.Gzip:
		aroundGzip(to, packed, b)
	default:
		to.Bytes(packed...)
	}
	return to.Out()
}

func aroundZlib(to *sink.Sink, packed, b []byte) {
	to.Bytes(0x78, 0x01)
	to.Bytes(packed...)
	sum := sums.NoSum.With(b...)
	to.Bytes(byte(sum>>24), byte(sum>>16), byte(sum>>8), byte(sum))
}

func aroundGzip(to *sink.Sink, packed, b []byte) {
	to.Bytes(31, 139, 8)
	// no flags, and six bytes of which none matters
	to.Bytes(make([]byte, 7)...)
	to.Bytes(packed...)
	to.Number(int(sums.Check(0).With(b...)), 32)
	to.Number(len(b), 32)
}
