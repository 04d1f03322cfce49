package bellows_test

import (
	"math"
	"math/rand"
	"slices"
	"strings"
	"testing"

	"bellows/api"
	"bellows/bellows"
)

// newReader makes a reader of a kind that there is.
func newReader(t *testing.T, kind, most int) *bellows.Reader {
	t.Helper()
	r, err := bellows.NewReader(kind, most)
	if r == nil || err != api.OK {
		t.Fatalf("P8: NewReader(%d, %d): %d", kind, most, err)
	}
	return r
}

// answers holds what a reader answers to one Write against what is wanted: of an
// ErrEnd it tells nothing, as more may come.
func answers(t *testing.T, r *bellows.Reader, b string, want api.Result) {
	t.Helper()
	told := want.Err
	if told == api.ErrEnd {
		told = api.OK
	}
	out, err := r.Write([]byte(b))
	if err != told || string(out) != string(want.Out) {
		t.Fatalf("P8: Write(%.60x) = %.60q, %d, want %.60q, %d", b, out, err, want.Out, told)
	}
	done, used := r.Done()
	if done != (want.Err == api.OK) || used != want.Used || r.Name() != want.Name {
		t.Fatalf("P8: behind Write(%.60x): %v, %d, %q, want %v, %d, %q",
			b, done, used, r.Name(), want.Err == api.OK, want.Used, want.Name)
	}
}

// follows hands pieces to a reader, and holds each answer against an Unpack of
// all that was handed over so far.
func follows(t *testing.T, kind, most int, pieces ...string) {
	t.Helper()
	r := newReader(t, kind, most)
	all, told := "", 0
	for _, piece := range pieces {
		all += piece
		want := bellows.Unpack(kind, []byte(all), most)
		end := len(want.Out)
		want.Out = want.Out[told:]
		answers(t, r, piece, want)
		told = end
	}
}

// inPieces cuts bytes into pieces of one size.
func inPieces(all string, size int) []string {
	var pieces []string
	for piece := range slices.Chunk([]byte(all), size) {
		pieces = append(pieces, string(piece))
	}
	return pieces
}

// inAnyPieces cuts bytes into pieces of sizes up to one; some are empty.
func inAnyPieces(source *rand.Rand, all string, most int) []string {
	var pieces []string
	for len(all) > 0 {
		n := min(len(all), source.Intn(most+1))
		pieces = append(pieces, all[:n])
		all = all[n:]
	}
	return append(pieces, "")
}

func TestNewReader(t *testing.T) {
	for _, most := range []int{math.MinInt, -1, 0, 1, 1048576, 1048577, math.MaxInt} {
		for kind := range 3 {
			r := newReader(t, kind, most)
			if done, used := r.Done(); done || used != 0 || r.Name() != "" {
				t.Errorf("P8: a new reader of kind %d: %v, %d, %q", kind, done, used, r.Name())
			}
		}
		for _, kind := range []int{math.MinInt, -2, -1, 3, 4, 256, 1 << 32, math.MaxInt} {
			if r, err := bellows.NewReader(kind, most); err != api.ErrKind || r != nil {
				t.Errorf("P1, P8: NewReader(%d, %d): %d, a reader: %v", kind, most, err, r != nil)
			}
		}
	}
}

func TestReaderStepByStep(t *testing.T) {
	type step struct {
		b    string
		want api.Result
	}
	more := func(out string) api.Result { return fails(api.ErrEnd, out, "") }
	for i, steps := range [][]step{
		{{"\x4b", more("")}, {"\x04", more("a")}, {"", more("")}, {"\x00", api.Result{Used: 3}}, {"\x07", api.Result{Used: 3}}},
		{{"\x4b\x04\x00\x4b\x04\x00", api.Result{Out: []byte("a"), Used: 3}}, {"", api.Result{Used: 3}}},
		{{"\x03", more("")}, {"\x00", api.Result{Used: 2}}},
		{{"\x07", fails(api.ErrBlock, "", "")}, {"\x4b\x04\x00", fails(api.ErrBlock, "", "")}},
		{{"\x01\x01", more("")}, {"\x00\xfe", more("")}, {"\xfe", fails(api.ErrStored, "", "")}, {"", fails(api.ErrStored, "", "")}},
		{{"\x01\x02\x00\xfd\xff", more("")}, {"a", more("a")}, {"bc", api.Result{Out: []byte("b"), Used: 7}}},
		{{"\x4b\x04", more("a")}, {"\x42", fails(api.ErrFar, "", "")}, {"\x00", fails(api.ErrFar, "", "")}},
		{{"\x4b\x04", more("a")}, {"\x02\x00", api.Result{Out: []byte("aaa"), Used: 4}}},
	} {
		t.Logf("case %d", i)
		r := newReader(t, api.Bare, 9)
		for _, s := range steps {
			answers(t, r, s.b, s.want)
		}
	}
}

func TestReaderOfAZlib(t *testing.T) {
	for _, c := range []struct {
		sum  string
		want api.Result
	}{{"\x62", api.Result{Used: 9}}, {"\x61", fails(api.ErrSum, "", "")}} {
		r := newReader(t, api.Zlib, 9)
		answers(t, r, "\x78", fails(api.ErrEnd, "", ""))
		answers(t, r, "\x01\x4b", fails(api.ErrEnd, "", ""))
		answers(t, r, "\x04", fails(api.ErrEnd, "a", ""))
		answers(t, r, "\x00\x00\x62\x00", fails(api.ErrEnd, "", ""))
		answers(t, r, c.sum, c.want)
		answers(t, r, "\x62", c.want)
	}
}

// The name is told as soon as its 0 has come, and whatever comes behind it.
func TestReaderOfAGzip(t *testing.T) {
	head := gzipHead(30, "\x02\x00xyna\xefve\x00a remark\x00", true)
	named := strings.Index(head, "a remark")
	for _, c := range []struct {
		tail string
		want api.Result
	}{
		{bareA + tailA, api.Result{Out: []byte("a"), Used: len(head) + 11, Name: "na\u00efve"}},
		{"\x07", fails(api.ErrBlock, "", "na\u00efve")},
		{bareA + "\x42\xbe\xb7\xe8", fails(api.ErrSum, "a", "na\u00efve")},
		{bareA + "\x43\xbe\xb7\xe8\x02\x00\x00\x00", fails(api.ErrSum, "a", "na\u00efve")},
	} {
		r := newReader(t, api.Gzip, 9)
		answers(t, r, head[:named-1], fails(api.ErrEnd, "", ""))
		answers(t, r, head[named-1:named], fails(api.ErrEnd, "", "na\u00efve"))
		answers(t, r, head[named:len(head)-1], fails(api.ErrEnd, "", "na\u00efve"))
		answers(t, r, head[len(head)-1:]+c.tail, c.want)
		c.want.Out = nil
		answers(t, r, "behind", c.want)
		answers(t, r, "", c.want)
	}
}

func TestReaderOfAnyPieces(t *testing.T) {
	all, out := wrappedMixed()
	source := rand.New(rand.NewSource(20))
	for _, b := range all {
		b += "behind the end"
		for kind := range 3 {
			for _, most := range []int{-1, 0, 1, len(out) - 1, len(out), 1048577} {
				for _, size := range []int{1, 2, 3, 7, 50, len(b)} {
					follows(t, kind, most, inPieces(b, size)...)
				}
				for range 20 {
					follows(t, kind, most, inAnyPieces(source, b, 1+source.Intn(40))...)
				}
			}
		}
	}
}

func TestReaderOfTwoPieces(t *testing.T) {
	all, out := wrappedMixed()
	for kind, b := range all {
		for n := range len(b) + 1 {
			follows(t, kind, len(out), b[:n], b[n:], "")
			follows(t, kind, len(out), "", b[:n], "", b[n:]+b)
		}
	}
}

func TestReaderOfGzipHeads(t *testing.T) {
	source := rand.New(rand.NewSource(21))
	for _, c := range heads() {
		if len(c.head) > 1000 {
			follows(t, api.Gzip, 9, inAnyPieces(source, c.head+bareA+tailA, 60000)...)
			continue
		}
		follows(t, api.Gzip, 9, inPieces(c.head+bareA+tailA+"more", 1)...)
		follows(t, api.Gzip, 9, inPieces(c.head+"\x07", 1)...)
		follows(t, api.Gzip, 9, inPieces(c.head+bareA+"\x43\xbe\xb7\xe7", 1)...)
	}
}

func TestReaderOfSpoiledBytes(t *testing.T) {
	all, _ := wrappedMixed()
	source := rand.New(rand.NewSource(22))
	for kind, good := range all {
		for range 200 {
			b := []byte(good)
			for range 1 + source.Intn(2) {
				b[source.Intn(len(b))] ^= 1 << source.Intn(8)
			}
			follows(t, kind, source.Intn(400), inAnyPieces(source, string(b), 1+source.Intn(9))...)
		}
	}
}

func TestReaderOfBytesWithoutSense(t *testing.T) {
	source := rand.New(rand.NewSource(23))
	for i := range 3000 {
		b := random(source, source.Intn(60), 256)
		if kind := i % 3; kind == api.Gzip {
			b = gzipHead(byte(source.Intn(32)), b, false)
		} else if kind == api.Zlib {
			b = "\x78\x01" + b
		}
		follows(t, i%3, source.Intn(100), inPieces(b, 1)...)
	}
}

// A block that tells all lengths has the longest head, of which no part is enough.
func TestReaderOfToldCodes(t *testing.T) {
	source := rand.New(rand.NewSource(24))
	symbols, distances := splitLengths(source, 286), splitLengths(source, 30)
	w := &writer{}
	for _, last := range []bool{false, true} {
		tellAll(w.block(last, 2), symbols, distances)
		ofSymbols := dealt(symbols)
		for _, symbol := range []int{'a', 0, 255, 256} {
			w.code(ofSymbols[symbol])
		}
	}
	follows(t, api.Bare, 9, inPieces(string(w.out), 1)...)
	follows(t, api.Bare, 5, inPieces(string(w.out), 1)...)
	r := newReader(t, api.Bare, 6)
	out, err := r.Write(w.out)
	if done, used := r.Done(); err != api.OK || string(out) != "a\x00\xffa\x00\xff" || !done || used != len(w.out) {
		t.Errorf("P8: told codes: %q, %d, %v, %d", out, err, done, used)
	}
}
