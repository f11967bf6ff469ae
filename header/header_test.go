package header_test

import (
	"math"
	"strconv"
	"strings"
	"testing"

	"arlink/api"
	"arlink/header"
)

const encodedSize = 60

// numberField is a field behind the name field as the chapter lists it.
type numberField struct {
	label               string
	offset, width, base int
	greatest            int
	set                 func(h *header.Header, n int)
}

var numberFields = []numberField{
	{"Time", 16, 12, 10, 999999999999, func(h *header.Header, n int) { h.Time = n }},
	{"UID", 28, 6, 10, 999999, func(h *header.Header, n int) { h.UID = n }},
	{"GID", 34, 6, 10, 999999, func(h *header.Header, n int) { h.GID = n }},
	{"Mode", 40, 8, 8, 1<<24 - 1, func(h *header.Header, n int) { h.Mode = n }},
	{"Size", 48, 10, 10, 9999999999, func(h *header.Header, n int) { h.Size = n }},
}

var (
	ordinary = header.Header{Name: "a.o/", Time: 1700000000, UID: 1000, GID: 100, Mode: 0o100644, Size: 1234}
	table    = header.Header{Name: "//", Size: 42}
)

const (
	ordinaryEncoding = "a.o/            1700000000  1000  100   100644  1234      `\n"
	tableEncoding    = "//                                              42        `\n"
)

// fittingNames has every length, and what the chapter does not forbid: spaces before the end, slashes, bytes that are no letters.
var fittingNames = []string{
	"a", "/", "a/", "ab/", "a.o/", "main.o/", "abcdefghijklmno/", "abcdefghijklmnop", "/0", "/123456789012345",
	"///", "// /", "//x", "//0", "/ /", "x//", " a", "  /", " a b/", "               a", "\t", "\r", "`", "\x01", "\x7f", "\x80", "\xff\xfe", "\u00e9/", "\ufffd", "a\u00a0",
}

var wrongNames = []string{
	"", " ", "  ", "                ", "a ", "// ", "a/  ", "abcdefghijklmno ", "abcdefghijklmnopq", "abcdefghijklmnop ", "                 ", "/1234567890123456",
	"\n", "\x00", "\na", "a\n", "a\nb", "a\n/", "\x00a", "a\x00", "a\x00b", "abcdefghijklmno\n", "abcdefghijklmno\x00", "//\n", "//\x00", "\xff\n", "\xff\x00",
	strings.Repeat("a", 256), strings.Repeat("a", 1000),
}

func pad(text string, width int) string {
	return text + strings.Repeat(" ", width-len(text))
}

// encodingOf is the encoding of a header whose Name and numbers fit, as the chapter defines it.
func encodingOf(h header.Header) string {
	numbers := pad(strconv.Itoa(h.Time), 12) + pad(strconv.Itoa(h.UID), 6) + pad(strconv.Itoa(h.GID), 6) + pad(strconv.FormatInt(int64(h.Mode), 8), 8)
	if h.Name == "//" {
		numbers = pad("", 32)
	}
	return pad(h.Name, 16) + numbers + pad(strconv.Itoa(h.Size), 10) + "`\n"
}

// with returns the text with the bytes from an offset on replaced.
func with(text string, offset int, replacement string) string {
	return text[:offset] + replacement + text[offset+len(replacement):]
}

// expectEncode checks Fits too, which has the same error.
func expectEncode(t *testing.T, h header.Header, want string, wantErr api.Errno) {
	t.Helper()
	b, err := header.Encode(h)
	if string(b) != want || err != wantErr || wantErr != api.OK && b != nil {
		t.Errorf("Encode(%#v) = %q, %d; want %q, %d", h, b, err, want, wantErr)
	}
	if err := header.Fits(h); err != wantErr {
		t.Errorf("Fits(%#v) = %d; want %d", h, err, wantErr)
	}
}

func expectDecode(t *testing.T, b string, want header.Header, wantErr api.Errno) {
	t.Helper()
	h, err := header.Decode([]byte(b))
	if h != want || err != wantErr {
		t.Errorf("Decode(%q) = %#v, %d; want %#v, %d", b, h, err, want, wantErr)
	}
}

// expectEncoding checks that a header and its encoding are turned into each other.
func expectEncoding(t *testing.T, h header.Header, encoding string) {
	t.Helper()
	if len(encoding) != encodedSize {
		t.Fatalf("the encoding %q has %d bytes", encoding, len(encoding))
	}
	expectEncode(t, h, encoding, api.OK)
	expectDecode(t, encoding, h, api.OK)
}

// P2.1, P2.2: the chapter's example, and encodings written out.
func TestEncodingsWrittenOut(t *testing.T) {
	expectEncoding(t, header.Header{Name: "a/"}, "a/              0           0     0     0       0         `\n")
	expectEncoding(t, ordinary, ordinaryEncoding)
	expectEncoding(t, table, tableEncoding)
	expectEncoding(t, header.Header{Name: "/", Size: 4}, "/               0           0     0     0       4         `\n")
	expectEncoding(t, header.Header{Name: "/17", Mode: 8, Size: 8}, "/17             0           0     0     10      8         `\n")
	expectEncoding(t, header.Header{Name: "a b c/", Time: 1, UID: 2, GID: 3, Mode: 4, Size: 5}, "a b c/          1           2     3     4       5         `\n")
	expectEncoding(t,
		header.Header{Name: "abcdefghijklmno/", Time: 999999999999, UID: 999998, GID: 999999, Mode: 0o77777777, Size: 9999999999},
		"abcdefghijklmno/999999999999999998999999777777779999999999`\n")
}

// P2.1, P2.2: Names that fit.
func TestFittingNames(t *testing.T) {
	for _, name := range fittingNames {
		h := ordinary
		h.Name = name
		expectEncoding(t, h, encodingOf(h))
	}
	for length := 1; length <= 16; length++ {
		h := ordinary
		h.Name = strings.Repeat(" ", length-1) + "x"
		expectEncoding(t, h, encodingOf(h))
	}
}

// P2.1: a Name that does not fit is reported before numbers that don't.
func TestEncodeErrName(t *testing.T) {
	for _, name := range wrongNames {
		expectEncode(t, header.Header{Name: name}, "", api.ErrName)
		expectEncode(t, header.Header{Name: name, Time: -1}, "", api.ErrName)
		expectEncode(t, header.Header{Name: name, Size: math.MaxInt}, "", api.ErrName)
	}
}

// P2.1, P2.2: every byte as the first, a middle and the last one of a Name.
func TestEveryByteOfNames(t *testing.T) {
	for c := range 256 {
		b := string([]byte{byte(c)})
		for _, name := range []string{b, b + "x", "x" + b + "x", "x" + b, "abcdefghijklmno" + b, b + "abcdefghijklmno"} {
			h := ordinary
			h.Name = name
			switch {
			case c == '\n' || c == 0:
				expectEncode(t, h, "", api.ErrName)
				expectDecode(t, encodingOf(h), header.Header{}, api.ErrName)
			case c == ' ' && strings.HasSuffix(name, " "):
				expectEncode(t, h, "", api.ErrName)
			default:
				expectEncoding(t, h, encodingOf(h))
			}
		}
	}
}

// P2.1, P2.2: each number alone, up to the greatest one that fits and past it.
func TestEachNumber(t *testing.T) {
	for _, f := range numberFields {
		for _, n := range []int{0, 1, 7, 8, 9, 10, 63, 64, 99, 100, f.greatest / f.base, f.greatest/f.base + 1, f.greatest - 1, f.greatest} {
			h := header.Header{Name: "x.o/"}
			f.set(&h, n)
			expectEncoding(t, h, encodingOf(h))
			h = ordinary
			f.set(&h, n)
			expectEncoding(t, h, encodingOf(h))
		}
		for _, n := range []int{-1, -8, -10, math.MinInt, f.greatest + 1, 2 * f.greatest, 1 << 60, math.MaxInt} {
			h := ordinary
			f.set(&h, n)
			expectEncode(t, h, "", api.ErrFit)
		}
	}
}

// P2.1: the table of long names has a Size only.
func TestEncodeTable(t *testing.T) {
	for _, f := range numberFields[:4] {
		for _, n := range []int{1, 8, f.greatest, f.greatest + 1, -1, math.MinInt, math.MaxInt} {
			h := table
			f.set(&h, n)
			expectEncode(t, h, "", api.ErrFit)
		}
	}
	for _, size := range []int{0, 1, 9, 10, 9999999999} {
		h := header.Header{Name: "//", Size: size}
		expectEncoding(t, h, encodingOf(h))
	}
	for _, size := range []int{-1, 10000000000, math.MinInt, math.MaxInt} {
		expectEncode(t, header.Header{Name: "//", Size: size}, "", api.ErrFit)
	}
}

// P2.2: bytes behind the header do not count, and what is too short is reported first.
func TestDecodeLengths(t *testing.T) {
	for _, rest := range []string{"", "x", "\n", "data\n", ordinaryEncoding, strings.Repeat("\x00", 1000)} {
		expectDecode(t, ordinaryEncoding+rest, ordinary, api.OK)
		expectDecode(t, tableEncoding+rest, table, api.OK)
	}
	for length := range encodedSize {
		expectDecode(t, ordinaryEncoding[:length], header.Header{}, api.ErrShort)
		expectDecode(t, strings.Repeat("\x00", length), header.Header{}, api.ErrShort)
		expectDecode(t, strings.Repeat(" ", length), header.Header{}, api.ErrShort)
	}
	if h, err := header.Decode(nil); h != (header.Header{}) || err != api.ErrShort {
		t.Errorf("Decode(nil) = %#v, %d", h, err)
	}
}

// P2.2: a wrong mark is reported before a wrong name and malformed fields.
func TestDecodeErrMark(t *testing.T) {
	wrongOnes := []string{ordinaryEncoding, tableEncoding, with(ordinaryEncoding, 0, "\n"), with(ordinaryEncoding, 16, "x"), strings.Repeat(" ", encodedSize), strings.Repeat("\x00", encodedSize)}
	for _, text := range wrongOnes {
		for c := range 256 {
			b := string([]byte{byte(c)})
			if c != '`' {
				expectDecode(t, with(text, 58, b+"\n"), header.Header{}, api.ErrMark)
			}
			if c != '\n' {
				expectDecode(t, with(text, 58, "`"+b), header.Header{}, api.ErrMark)
			}
		}
		expectDecode(t, with(text, 58, "\n`"), header.Header{}, api.ErrMark)
		expectDecode(t, with(text, 58, "\r\n")+"`\n", header.Header{}, api.ErrMark)
	}
}

// P2.2: a name that does not fit is reported before malformed fields.
func TestDecodeErrName(t *testing.T) {
	for _, name := range []string{"", "\n", "\x00", "a\n", "a\nb", "a\x00", "\x00a", "\n/", "//\n", "//\x00", "a/ \n", "a/ \x00", "abcdefghijklmno\n", "abcdefghijklmno\x00", "              \n "} {
		for _, text := range []string{ordinaryEncoding, tableEncoding, with(ordinaryEncoding, 16, "x"), with(ordinaryEncoding, 48, "          ")} {
			expectDecode(t, with(text, 0, pad(name, 16)), header.Header{}, api.ErrName)
		}
	}
}

// P2.2: each field of a member malformed, among them by spaces only.
func TestDecodeErrField(t *testing.T) {
	for _, f := range numberFields {
		full := strings.Repeat("7", f.width)
		for _, text := range []string{
			"", "00", "01", "007", " 0", " 1", "1 2", "1  2", "-1", "+1", "-0", "x", "1x", "0x1", "1_0", "1.", "1\t", "1\n", "\x00", "1\x00", "1`", "/", "1/", ":", "1:", "\xb1", "1\xa0", "\u0661",
			full[1:] + "x", "0" + full[1:], " " + full[1:], full[2:] + " 7",
		} {
			expectDecode(t, with(ordinaryEncoding, f.offset, pad(text, f.width)), header.Header{}, api.ErrField)
		}
		if f.base == 8 {
			for _, text := range []string{"8", "9", "18", "100648", "77777778"} {
				expectDecode(t, with(ordinaryEncoding, f.offset, pad(text, f.width)), header.Header{}, api.ErrField)
			}
		}
	}
	expectDecode(t, with(tableEncoding, 0, "/ "), header.Header{}, api.ErrField)
	expectDecode(t, with(tableEncoding, 0, "///"), header.Header{}, api.ErrField)
}

// P2.2: for the table of long names, all fields but that of the size are spaces only.
func TestDecodeTableErrField(t *testing.T) {
	expectDecode(t, with(ordinaryEncoding, 0, "//  "), header.Header{}, api.ErrField)
	for _, f := range numberFields[:4] {
		for _, text := range []string{"0", "1", " 0", "x", "\t", "\x00", "\n"} {
			expectDecode(t, with(tableEncoding, f.offset, pad(text, f.width)), header.Header{}, api.ErrField)
			expectDecode(t, with(tableEncoding, f.offset+f.width-1, text[len(text)-1:]), header.Header{}, api.ErrField)
		}
	}
	for _, text := range []string{"", "00", "01", " 1", "x", "1 2", "-1", "\x00"} {
		expectDecode(t, with(tableEncoding, 48, pad(text, 10)), header.Header{}, api.ErrField)
	}
}

// P2.3: whatever byte is changed, what is decoded is encoded to the same bytes again, and an error leaves a zero header.
func TestDecodedIsEncodedAgain(t *testing.T) {
	texts := []string{
		ordinaryEncoding, tableEncoding,
		"abcdefghijklmno/999999999999999998999999777777779999999999`\n",
		" / x            0           0     0     0       0         `\n",
	}
	for _, text := range texts {
		for at := range encodedSize {
			for c := range 256 {
				b := with(text, at, string([]byte{byte(c)}))
				h, err := header.Decode([]byte(b + "rest"))
				if err != api.OK {
					if h != (header.Header{}) {
						t.Fatalf("Decode(%q) = %#v, %d", b, h, err)
					}
					continue
				}
				if again, err := header.Encode(h); string(again) != b || err != api.OK {
					t.Fatalf("Decode(%q) = %#v, which is encoded to %q, %d", b, h, again, err)
				}
			}
		}
	}
}

// P2.3: whatever fits is decoded to what was encoded.
func TestEncodedIsDecodedAgain(t *testing.T) {
	numbers := []int{0, 1, 8, 511, 512, 4095, 99999, 100000, 999999}
	for i, name := range fittingNames {
		for j := range numbers {
			number := func(step int) int { return numbers[(j+step*(i+1))%len(numbers)] }
			h := header.Header{Name: name, Time: number(0), UID: number(1), GID: number(2), Mode: number(3), Size: number(4)}
			b, err := header.Encode(h)
			if err != api.OK {
				t.Fatalf("Encode(%#v) has the error %d", h, err)
			}
			expectDecode(t, string(b), h, api.OK)
		}
	}
}

// P2.4: neither the bytes of an argument nor those behind it change, and a header does not change with the bytes it was decoded from.
func TestArgumentsUnchanged(t *testing.T) {
	for _, text := range []string{ordinaryEncoding, tableEncoding, with(ordinaryEncoding, 16, "x"), with(ordinaryEncoding, 0, "\n"), with(ordinaryEncoding, 58, "xx"), "short", ""} {
		whole := []byte(text + "#####")
		header.Decode(whole[:len(text)])
		if string(whole) != text+"#####" {
			t.Errorf("%q was changed to %q", text, whole)
		}
	}
	b := []byte(ordinaryEncoding)
	h, _ := header.Decode(b)
	for i := range b {
		b[i] = '#'
	}
	if h != ordinary {
		t.Errorf("after a change of the bytes, the header is %#v", h)
	}
}

// P2.4: a result changes neither with a later call nor with another result, and no later call sees what was written to it or behind it.
func TestResultsAreNew(t *testing.T) {
	first, _ := header.Encode(ordinary)
	second, _ := header.Encode(ordinary)
	header.Encode(table)
	if string(first) != ordinaryEncoding || string(second) != ordinaryEncoding {
		t.Errorf("after another call, the encodings are %q and %q", first, second)
	}
	whole := first[:cap(first)]
	for i := range whole {
		whole[i] = '#'
	}
	if string(second) != ordinaryEncoding {
		t.Errorf("after a change of the first encoding, the second is %q", second)
	}
	expectEncoding(t, ordinary, ordinaryEncoding)
	expectEncoding(t, table, tableEncoding)
}
