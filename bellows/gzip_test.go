package bellows_test

import (
	"strings"
	"testing"

	"bellows/api"
)

// gzipHead is a head with flags, with what these ask for behind it and, if it is
// wanted, the head's own check.
func gzipHead(flags byte, more string, checked bool) string {
	head := "\x1f\x8b\x08" + string([]byte{flags}) + "\x00\x01\xff\x00\x80\x03" + more
	if checked {
		head += checkOf(head)[:2]
	}
	return head
}

// gzipTail is what stands behind the blocks that put this out.
func gzipTail(out string) string {
	return checkOf(out) + long(len(out))
}

const tailA = "\x43\xbe\xb7\xe8\x01\x00\x00\x00"

func TestGzip(t *testing.T) {
	good := gzipHead(0, "", false) + bareA + tailA
	a := api.Result{Out: []byte("a"), Used: 21}
	unpacks(t, "P7", api.Gzip, good, 9, a)
	unpacks(t, "P7", api.Gzip, good, 1, a)
	unpacks(t, "P7", api.Gzip, good+good, 9, a)
	unpacks(t, "P7", api.Gzip, good, 0, fails(api.ErrMuch, "", ""))
	nothing := gzipHead(0, "", false) + "\x03\x00" + strings.Repeat("\x00", 8)
	unpacks(t, "P7", api.Gzip, nothing, 0, api.Result{Used: 20})
	for n := range good {
		out := ""
		if n > 11 {
			out = "a"
		}
		unpacks(t, "P7", api.Gzip, good[:n], 9, fails(api.ErrEnd, out, ""))
	}
}

// heads are heads of all sorts, with the names in them.
func heads() []struct{ head, name string } {
	long := strings.Repeat("0123456789", 20000)
	return []struct{ head, name string }{
		{gzipHead(0, "", false), ""},
		{gzipHead(1, "", false), ""},
		{gzipHead(2, "", true), ""},
		{gzipHead(3, "", true), ""},
		{gzipHead(4, "\x00\x00", false), ""},
		{gzipHead(4, "\x03\x00abc", false), ""},
		{gzipHead(4, "\x03\x00\x00\x00\x00", false), ""},
		{gzipHead(4, "\x00\x01"+strings.Repeat("z", 256), false), ""},
		{gzipHead(4, "\xff\xff"+strings.Repeat("z", 65535), false), ""},
		{gzipHead(6, "\x01\x00a", true), ""},
		{gzipHead(8, "\x00", false), ""},
		{gzipHead(8, "name\x00", false), "name"},
		{gzipHead(8, long+"\x00", false), long},
		{gzipHead(10, "name\x00", true), "name"},
		{gzipHead(12, "\x02\x00n\x00name\x00", false), "name"},
		{gzipHead(16, "\x00", false), ""},
		{gzipHead(16, "a remark\x00", false), ""},
		{gzipHead(16, long+"\x00", false), ""},
		{gzipHead(18, "a remark\x00", true), ""},
		{gzipHead(24, "name\x00a remark\x00", false), "name"},
		{gzipHead(24, "\x00a remark\x00", false), ""},
		{gzipHead(24, "name\x00\x00", false), "name"},
		{gzipHead(31, "\x02\x00xyname\x00a remark\x00", true), "name"},
	}
}

func TestGzipHeads(t *testing.T) {
	for _, c := range heads() {
		all := c.head + bareA + tailA
		unpacks(t, "P7", api.Gzip, all, 9, api.Result{Out: []byte("a"), Used: len(all), Name: c.name})
		unpacks(t, "P7", api.Gzip, c.head+"\x07", 9, fails(api.ErrBlock, "", c.name))
		unpacks(t, "P7", api.Gzip, c.head+bareA+"\x43\xbe\xb7\xe7", 9, fails(api.ErrSum, "a", c.name))
		unpacks(t, "P7", api.Gzip, c.head+bareA, 0, fails(api.ErrMuch, "", c.name))
		unpacks(t, "P7", api.Gzip, c.head, 9, fails(api.ErrEnd, "", c.name))
	}
}

func TestPiecesOfAGzipHead(t *testing.T) {
	const more = "\x02\x00xyname\x00a remark\x00"
	head := gzipHead(31, more, true)
	named := strings.Index(head, "name\x00") + len("name\x00")
	for n := range head {
		name := ""
		if n >= named {
			name = "name"
		}
		unpacks(t, "P7", api.Gzip, head[:n], 9, fails(api.ErrEnd, "", name))
	}
}

func TestWrongGzipHeads(t *testing.T) {
	const mark = "\x1f\x8b\x08"
	for i := range mark {
		for b := range 256 {
			want := api.ErrHead
			if byte(b) == mark[i] {
				want = api.ErrEnd
			}
			unpacks(t, "P7", api.Gzip, mark[:i]+string([]byte{byte(b)}), 9, fails(want, "", ""))
		}
	}
	for flags := range 256 {
		want := api.ErrHead
		if flags < 32 {
			want = api.ErrEnd
		}
		unpacks(t, "P7", api.Gzip, mark+string([]byte{byte(flags)}), 9, fails(want, "", ""))
	}
}

func TestGzipHeadCheck(t *testing.T) {
	for _, c := range []struct {
		flags      byte
		more, name string
	}{{2, "", ""}, {6, "\x03\x00abc", ""}, {10, "name\x00", "name"}, {18, "a remark\x00", ""}, {30, "\x00\x00n\x00\x00", "n"}} {
		head := gzipHead(c.flags, c.more, true)
		for i := len(head) - 2; i < len(head); i++ {
			for bit := range 8 {
				b := []byte(head)
				b[i] ^= 1 << bit
				unpacks(t, "P7", api.Gzip, string(b), 9, fails(api.ErrSum, "", c.name))
				unpacks(t, "P7", api.Gzip, string(b)+bareA+tailA, 9, fails(api.ErrSum, "", c.name))
			}
		}
		// the six bytes belong to what is checked
		b := []byte(head)
		b[5]++
		unpacks(t, "P7", api.Gzip, string(b), 9, fails(api.ErrSum, "", c.name))
		// half of it is not enough to tell
		unpacks(t, "P7", api.Gzip, head[:len(head)-1], 9, fails(api.ErrEnd, "", c.name))
	}
}

func TestGzipName(t *testing.T) {
	var bytes []byte
	var runes []rune
	for i := 1; i < 256; i++ {
		bytes = append(bytes, byte(i))
		runes = append(runes, rune(i))
	}
	for bytes, name := range map[string]string{
		string(bytes):      string(runes),
		"\x80\xff":         "\u0080\u00ff",
		"na\xefve":         "na\u00efve",
		"\xc3\xa4":         "\u00c3\u00a4", // bytes are characters, even where they look like UTF-8
		"a/b\\..\r\n":      "a/b\\..\r\n",
		"\xed\xa0\x80\xfe": "\u00ed\u00a0\u0080\u00fe",
	} {
		all := gzipHead(8, bytes+"\x00", false) + bareA + tailA
		unpacks(t, "P7", api.Gzip, all, 9, api.Result{Out: []byte("a"), Used: len(all), Name: name})
	}
}

func TestGzipTail(t *testing.T) {
	begin := gzipHead(0, "", false) + bareA
	for _, c := range []struct {
		tail string
		err  api.Errno
	}{
		{"\x43\xbe\xb7", api.ErrEnd},
		{"\x42\xbe\xb7", api.ErrEnd},     // not all of the check is there
		{"\x42\xbe\xb7\xe8", api.ErrSum}, // the check is wrong, whatever comes behind
		{"\xe8\xb7\xbe\x43\x01\x00\x00\x00", api.ErrSum},
		{"\x43\xbe\xb7\xe8", api.ErrEnd},
		{"\x43\xbe\xb7\xe8\x02\x00\x00", api.ErrEnd},
		{"\x43\xbe\xb7\xe8\x02\x00\x00\x00", api.ErrSum},
		{"\x43\xbe\xb7\xe8\x00\x00\x00\x01", api.ErrSum},
		{"\x43\xbe\xb7\xe8\x01\x00\x00\x01", api.ErrSum},
	} {
		unpacks(t, "P7", api.Gzip, begin+c.tail, 9, fails(c.err, "a", ""))
	}
	for _, out := range []string{"", strings.Repeat("\xff", 65535), strings.Repeat("hello, ", 5000)} {
		b := gzipHead(0, "", false) + string((&writer{}).stored(true, []byte(out)).out) + gzipTail(out)
		unpacks(t, "P7", api.Gzip, b, len(out), api.Result{Out: []byte(out), Used: len(b)})
	}
}
