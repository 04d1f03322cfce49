package bellows_test

import (
	"strings"
	"testing"

	"bellows/api"
)

func TestZlib(t *testing.T) {
	const good = "\x78\x01" + bareA + "\x00\x62\x00\x62"
	a := api.Result{Out: []byte("a"), Used: 9}
	unpacks(t, "P6", api.Zlib, good, 9, a)
	unpacks(t, "P6", api.Zlib, good, 1, a)
	unpacks(t, "P6", api.Zlib, good+"\x00", 1, a)
	unpacks(t, "P6", api.Zlib, good, 0, fails(api.ErrMuch, "", ""))
	// nothing at all
	unpacks(t, "P6", api.Zlib, "\x78\x01\x03\x00\x00\x00\x00\x01", 0, api.Result{Used: 8})
	unpacks(t, "P6", api.Zlib, "\x78\x01\x03\x00\x00\x00\x00\x00", 0, fails(api.ErrSum, "", ""))
	for n := range good {
		out := ""
		if n > 3 {
			out = "a"
		}
		unpacks(t, "P6", api.Zlib, good[:n], 9, fails(api.ErrEnd, out, ""))
	}
}

// Every pair of bytes is a head, or is not, by what the document says of them.
func TestEveryZlibHead(t *testing.T) {
	for i := range 1 << 16 {
		first, second := i>>8, i&255
		b := string([]byte{byte(first), byte(second)})
		firstMayBe := first&15 == 8 && first>>4 <= 7
		mayBe := firstMayBe && second&32 == 0 && i%31 == 0
		want := fails(api.ErrHead, "", "")
		if mayBe {
			want = api.Result{Out: []byte("a"), Used: 9}
		}
		unpacks(t, "P6", api.Zlib, b+bareA+"\x00\x62\x00\x62", 9, want)
		alone := api.ErrHead
		if firstMayBe {
			alone = api.ErrEnd
		}
		unpacks(t, "P6", api.Zlib, b[:1], 9, fails(alone, "", ""))
	}
}

func TestZlibSum(t *testing.T) {
	for _, out := range []string{"", "a", strings.Repeat("\xff", 60000), strings.Repeat("hello, ", 5000)} {
		b := "\x78\x01" + string((&writer{}).stored(true, []byte(out)).out)
		sum := sumOf(out)
		unpacks(t, "P6", api.Zlib, b+sum, len(out), api.Result{Out: []byte(out), Used: len(b) + 4})
		for n := range 4 {
			unpacks(t, "P6", api.Zlib, b+sum[:n], len(out), fails(api.ErrEnd, out, ""))
		}
		// the lowest byte first
		turned := string([]byte{sum[3], sum[2], sum[1], sum[0]})
		unpacks(t, "P6", api.Zlib, b+turned, len(out), fails(api.ErrSum, out, ""))
		// the halves the other way round: the same number for "a" alone
		if swapped := sum[2:] + sum[:2]; swapped != sum {
			unpacks(t, "P6", api.Zlib, b+swapped, len(out), fails(api.ErrSum, out, ""))
		}
	}
}

func TestZlibErrorsInside(t *testing.T) {
	for b, want := range map[string]api.Result{
		"\x07":                     fails(api.ErrBlock, "", ""),
		"\x01\x01\x00\xfe\xfe\x61": fails(api.ErrStored, "", ""),
		"\x03\x02":                 fails(api.ErrFar, "", ""),
		"\x4b\x04":                 fails(api.ErrEnd, "a", ""),
	} {
		unpacks(t, "P6", api.Zlib, "\x78\x01"+b, 9, want)
	}
	// bits behind the last block do not matter: the sum begins with a byte
	unpacks(t, "P6", api.Zlib, "\x78\x01\x03\xfc\x00\x00\x00\x01", 9, api.Result{Used: 8})
}
