package objsym_test

import (
	"bytes"
	"encoding/binary"
	"fmt"
	"math"
	"slices"
	"strings"
	"testing"

	"arlink/api"
	"arlink/objsym"
)

const maxSyms = 65536

// encoding is the encoding of symbols and a body by the chapter, whether they are valid or not.
func encoding(syms []api.Sym, body string) string {
	b := binary.BigEndian.AppendUint32([]byte("OBJ1"), uint32(len(syms)))
	for _, s := range syms {
		b = append(b, symEncoding(s)...)
	}
	return string(b) + body
}

func symEncoding(s api.Sym) string {
	b := []byte{byte(s.Bind)}
	b = binary.BigEndian.AppendUint32(b, uint32(s.Size))
	b = binary.BigEndian.AppendUint32(b, uint32(s.Align))
	return string(append(b, byte(len(s.Name)))) + s.Name
}

// validSym is the chapter's definition of a valid symbol.
func validSym(s api.Sym) bool {
	aligns := []int{0}
	greatestSize := 4294967295
	switch s.Bind {
	case 1, 2:
	case 3:
		aligns = []int{1, 2, 4, 8, 16, 32, 64, 128, 256, 512, 1024, 2048, 4096, 8192, 16384, 32768, 65536}
	case 4, 5:
		greatestSize = 0
	default:
		return false
	}
	return len(s.Name) >= 1 && len(s.Name) <= 255 && !strings.Contains(s.Name, "\x00") &&
		s.Size >= 0 && s.Size <= greatestSize && slices.Contains(aligns, s.Align)
}

func validSyms(syms []api.Sym) bool {
	for i, s := range syms {
		if !validSym(s) || slices.ContainsFunc(syms[:i], func(other api.Sym) bool { return other.Name == s.Name }) {
			return false
		}
	}
	return len(syms) <= maxSyms
}

// decoded is the chapter's promise P6.2, with the errors in its order.
func decoded(b string) (syms []api.Sym, body string, err api.Errno) {
	if len(b) < 4 {
		return nil, "", api.ErrShort
	}
	if b[:4] != "OBJ1" {
		return nil, "", api.ErrMagic
	}
	if len(b) < 8 {
		return nil, "", api.ErrShort
	}
	number := func(i int) int { return int(binary.BigEndian.Uint32([]byte(b[i : i+4]))) }
	count := number(4)
	if count > maxSyms {
		return nil, "", api.ErrObject
	}
	at := 8
	for range count {
		if len(b) < at+10 || len(b) < at+10+int(b[at+9]) {
			return nil, "", api.ErrShort
		}
		end := at + 10 + int(b[at+9])
		syms = append(syms, api.Sym{Name: b[at+10 : end], Bind: int(b[at]), Size: number(at + 1), Align: number(at + 5)})
		if !validSyms(syms) {
			return nil, "", api.ErrObject
		}
		at = end
	}
	return syms, b[at:], api.OK
}

func describe(syms []api.Sym) string {
	text := fmt.Sprintf("%d symbols", len(syms))
	for _, s := range syms[:min(len(syms), 6)] {
		text += fmt.Sprintf(" {%.300q bind %d size %d align %d}", s.Name, s.Bind, s.Size, s.Align)
	}
	return text
}

func object(syms []api.Sym, body string) api.Object {
	return api.Object{Syms: syms, Body: []byte(body)}
}

// expectValid checks everything that the chapter promises of a valid object.
func expectValid(t *testing.T, syms []api.Sym, body string) {
	t.Helper()
	if !objsym.Valid(object(syms, body)) {
		t.Errorf("Valid(%s, body %.99q) = false", describe(syms), body)
	}
	want := encoding(syms, body)
	if b, err := objsym.Encode(object(syms, body)); string(b) != want || err != api.OK {
		t.Errorf("Encode(%s, body %.99q) = %.999q, %d; want %.999q", describe(syms), body, b, err, want)
	}
	expectDecode(t, want, syms, body, api.OK)
}

// expectInvalid checks everything that the chapter promises of an object that is not valid.
func expectInvalid(t *testing.T, syms []api.Sym, body string) {
	t.Helper()
	if objsym.Valid(object(syms, body)) {
		t.Errorf("Valid(%s, body %.99q) = true", describe(syms), body)
	}
	if b, err := objsym.Encode(object(syms, body)); b != nil || err != api.ErrObject {
		t.Errorf("Encode(%s, body %.99q) = %.999q, %d; want the error %d", describe(syms), body, b, err, api.ErrObject)
	}
}

func expectDecode(t *testing.T, b string, syms []api.Sym, body string, want api.Errno) {
	t.Helper()
	o, err := objsym.Decode([]byte(b))
	if !slices.Equal(o.Syms, syms) || string(o.Body) != body || err != want {
		t.Errorf("Decode(%.999q) = %s, body %.99q, %d; want %s, body %.99q, %d", b, describe(o.Syms), o.Body, err, describe(syms), body, want)
	}
	if err != api.OK && (o.Syms != nil || o.Body != nil) {
		t.Errorf("Decode(%.999q) has an object together with the error %d", b, err)
	}
}

func expectDecodeErr(t *testing.T, b string, want api.Errno) {
	t.Helper()
	expectDecode(t, b, nil, "", want)
}

// expectDecoded compares with the chapter's promise, whatever b is.
func expectDecoded(t *testing.T, b string) {
	t.Helper()
	syms, body, err := decoded(b)
	if err != api.OK {
		expectDecodeErr(t, b, err)
		return
	}
	expectValid(t, syms, body)
}

// expectSym puts a symbol alone and between others, and compares with the chapter's definition. Its numbers fit their fields.
func expectSym(t *testing.T, s api.Sym) {
	t.Helper()
	a, b := api.Sym{Name: "first", Bind: api.Strong, Size: 7}, api.Sym{Name: "last", Bind: api.Common, Size: 7, Align: 8}
	for _, syms := range [][]api.Sym{{s}, {s, a, b}, {a, s, b}, {a, b, s}} {
		if validSym(s) {
			expectValid(t, syms, "body")
			continue
		}
		expectInvalid(t, syms, "body")
		expectDecodeErr(t, encoding(syms, "body"), api.ErrObject)
	}
}

func strong(names ...string) []api.Sym {
	var syms []api.Sym
	for _, name := range names {
		syms = append(syms, api.Sym{Name: name, Bind: api.Strong})
	}
	return syms
}

// P6.1, P6.2: the chapter's example, and objects written out.
func TestWrittenOut(t *testing.T) {
	syms := []api.Sym{
		{Name: "main", Bind: api.Strong, Size: 0x01020304},
		{Name: "w", Bind: api.Weak, Size: 0xffffffff},
		{Name: "table", Bind: api.Common, Size: 256, Align: 65536},
		{Name: "printf", Bind: api.Undef},
		{Name: "hook", Bind: api.WeakUndef},
	}
	text := "OBJ1\x00\x00\x00\x05" +
		"\x01\x01\x02\x03\x04\x00\x00\x00\x00\x04main" +
		"\x02\xff\xff\xff\xff\x00\x00\x00\x00\x01w" +
		"\x03\x00\x00\x01\x00\x00\x01\x00\x00\x05table" +
		"\x04\x00\x00\x00\x00\x00\x00\x00\x00\x06printf" +
		"\x05\x00\x00\x00\x00\x00\x00\x00\x00\x04hook"
	for _, x := range []struct {
		o    api.Object
		want string
	}{
		{api.Object{}, "OBJ1\x00\x00\x00\x00"},
		{api.Object{Syms: []api.Sym{}, Body: []byte{}}, "OBJ1\x00\x00\x00\x00"},
		{api.Object{Body: []byte("code")}, "OBJ1\x00\x00\x00\x00code"},
		{api.Object{Syms: syms}, text},
		{api.Object{Syms: syms, Body: []byte("\x00code")}, text + "\x00code"},
	} {
		if b, err := objsym.Encode(x.o); string(b) != x.want || err != api.OK {
			t.Errorf("Encode(%s) = %q, %d; want %q", describe(x.o.Syms), b, err, x.want)
		}
		expectDecode(t, x.want, x.o.Syms, string(x.o.Body), api.OK)
		expectValid(t, x.o.Syms, string(x.o.Body))
	}
}

// P6.1, P6.2: every binding, with sizes and alignments at and next to every limit that fits a field.
func TestNumbers(t *testing.T) {
	sizes := []int{0, 1, 255, 256, 65535, 65536, 1<<24 - 1, 1 << 24, 1<<31 - 1, 1 << 31, 1<<32 - 1}
	var aligns []int
	for i := range 32 {
		aligns = append(aligns, 1<<i-1, 1<<i, 1<<i+1)
	}
	aligns = append(aligns, 6, 12, 0x10001, 1<<32-1)
	for bind := range 256 {
		for _, size := range sizes {
			for _, align := range aligns {
				if bind <= 6 || size <= 1 && align <= 2 {
					expectSym(t, api.Sym{Name: "f", Bind: bind, Size: size, Align: align})
				}
			}
		}
	}
}

// P6.1: numbers that fit no field, among them those that would be valid in the bits that fit one.
func TestNumbersTooGreat(t *testing.T) {
	for bind := api.Strong; bind <= api.WeakUndef; bind++ {
		s := api.Sym{Name: "f", Bind: bind}
		if bind == api.Common {
			s.Align = 1
		}
		expectValid(t, []api.Sym{s}, "")
		for _, n := range []int{-1, -2, -5, math.MinInt, 1 << 32, 1<<32 + 1, 1 << 33, 1 << 62, math.MaxInt} {
			wrong := s
			wrong.Size = n
			expectInvalid(t, []api.Sym{wrong}, "")
		}
		for _, n := range []int{-1, -2, -65536, math.MinInt, math.MinInt + 1, 1 << 17, 1 << 32, 1<<32 + 1, 1 << 62, math.MaxInt} {
			wrong := s
			wrong.Align = n
			expectInvalid(t, []api.Sym{wrong}, "")
		}
		for _, n := range []int{-256, -1 << 32, math.MinInt, 256, 1 << 32, 1 << 62} {
			wrong := s
			wrong.Bind += n
			expectInvalid(t, []api.Sym{wrong}, "")
		}
	}
	for bind := -300; bind <= 300; bind++ {
		for _, align := range []int{0, 1} {
			s := api.Sym{Name: "f", Bind: bind, Align: align}
			if !validSym(s) {
				expectInvalid(t, []api.Sym{s}, "")
			}
		}
	}
}

// P6.1, P6.2: names of every length and of every byte, for every binding.
func TestNames(t *testing.T) {
	for bind := api.Strong; bind <= api.WeakUndef; bind++ {
		s := api.Sym{Bind: bind}
		if bind == api.Common {
			s.Align = 4
		}
		for length := range 256 {
			s.Name = strings.Repeat("n", length)
			expectSym(t, s)
		}
		for c := range 256 {
			b := string([]byte{byte(c)})
			for _, name := range []string{b, b + "x", "x" + b + "x", "x" + b, strings.Repeat(b, 255), strings.Repeat("x", 254) + b} {
				s.Name = name
				expectSym(t, s)
			}
		}
		// Longer names have no encoding: that of the first one would look like the name "".
		for _, length := range []int{256, 257, 511, 512, 1000, 65537} {
			s.Name = strings.Repeat("n", length)
			expectInvalid(t, []api.Sym{s}, "")
		}
	}
	for _, name := range []string{" ", "\n", "/", "a b", "\u00e9", "\xff\xfe", "\ufffd", "OBJ1"} {
		expectSym(t, api.Sym{Name: name, Bind: api.Strong})
	}
}

// P6.1, P6.2: the names of an object differ, whatever the bindings are, and wherever the equal ones are.
func TestEqualNames(t *testing.T) {
	for first := api.Strong; first <= api.WeakUndef; first++ {
		for second := api.Strong; second <= api.WeakUndef; second++ {
			a, b := api.Sym{Name: "f", Bind: first}, api.Sym{Name: "f", Bind: second}
			for _, s := range []*api.Sym{&a, &b} {
				if s.Bind == api.Common {
					s.Align = 1
				}
			}
			syms := []api.Sym{a, b}
			expectInvalid(t, syms, "")
			expectDecodeErr(t, encoding(syms, ""), api.ErrObject)
			syms[1].Name = "g"
			expectValid(t, syms, "")
		}
	}
	for i := range 6 {
		for j := range i {
			syms := strong("a", "b", "c", "d", "e", "f")
			syms[i].Name = syms[j].Name
			expectInvalid(t, syms, "body")
			expectDecodeErr(t, encoding(syms, "body"), api.ErrObject)
		}
	}
	for _, x := range [][]string{{"f", "F"}, {"f", "ff", "fff"}, {"f", " f", "f "}, {"\xe9", "\u00e9"}, {"\xff", "\xfe", "\ufffd"}} {
		expectValid(t, strong(x...), "")
	}
}

// P6.1, P6.2: as many symbols as there may be, and one more, and equal names far from each other.
func TestNumberOfSymbols(t *testing.T) {
	var syms []api.Sym
	for i := range maxSyms + 2 {
		syms = append(syms, api.Sym{Name: fmt.Sprintf("name%d", i), Bind: api.Weak, Size: i})
	}
	expectValid(t, syms[:maxSyms-1], "body")
	expectValid(t, syms[:maxSyms], "body")
	for _, count := range []int{maxSyms + 1, maxSyms + 2} {
		expectInvalid(t, syms[:count], "body")
		expectDecodeErr(t, encoding(syms[:count], "body"), api.ErrObject)
	}
	syms = syms[:maxSyms]
	syms[maxSyms-1].Name = "name0"
	expectInvalid(t, syms, "body")
	expectDecodeErr(t, encoding(syms, "body"), api.ErrObject)
}

// P6.2: the number of symbols is judged before the symbols are looked at.
func TestCountOfDecode(t *testing.T) {
	for _, count := range []uint32{65537, 65538, 1 << 17, 1 << 24, 1<<31 - 1, 1 << 31, 1<<32 - 1} {
		b := binary.BigEndian.AppendUint32([]byte("OBJ1"), count)
		expectDecodeErr(t, string(b), api.ErrObject)
		expectDecodeErr(t, string(b)+symEncoding(api.Sym{Name: "f", Bind: api.Strong}), api.ErrObject)
	}
	for _, count := range []uint32{1, 2, 255, 256, 65535, 65536} {
		b := binary.BigEndian.AppendUint32([]byte("OBJ1"), count)
		expectDecodeErr(t, string(b), api.ErrShort)
	}
	expectDecode(t, "OBJ1\x00\x00\x00\x00"+symEncoding(api.Sym{Name: "f", Bind: 9}), nil, symEncoding(api.Sym{Name: "f", Bind: 9}), api.OK)
}

// P6.1, P6.2: whatever lies behind the symbols is the body.
func TestBody(t *testing.T) {
	for _, syms := range [][]api.Sym{nil, strong("f"), strong("f", "g")} {
		for _, body := range []string{"", "\x00", "\n", "OBJ1", encoding(strong("f"), "x"), symEncoding(strong("g")[0]), strings.Repeat("\xff", 100000)} {
			expectValid(t, syms, body)
			expectInvalid(t, append(strong("h", "h"), syms...), body)
		}
		for c := range 256 {
			expectValid(t, syms, string([]byte{byte(c)}))
		}
	}
}

// sample has symbols of all bindings.
var sample = []api.Sym{
	{Name: "f", Bind: api.Strong, Size: 9},
	{Name: "g", Bind: api.Undef},
	{Name: "com", Bind: api.Common, Size: 1 << 24, Align: 16},
	{Name: "w", Bind: api.Weak},
	{Name: "x", Bind: api.WeakUndef},
}

// P6.2: every prefix of an object, with its symbols in every turn.
func TestEveryPrefix(t *testing.T) {
	for turn := range sample {
		syms := append(slices.Clone(sample[turn:]), sample[:turn]...)
		symbols := len(encoding(syms, ""))
		b := encoding(syms, "body")
		for length := range len(b) + 1 {
			if length < symbols {
				expectDecodeErr(t, b[:length], api.ErrShort)
			}
			expectDecoded(t, b[:length])
		}
	}
}

// P6.2: every byte of an object changed to every other one, of the whole object and of every prefix that ends soon after it.
func TestEveryChange(t *testing.T) {
	text := encoding(sample, "body")
	for i := range text {
		for c := range 256 {
			b := []byte(text)
			b[i] = byte(c)
			expectDecoded(t, string(b))
			if c <= 6 || c >= 254 {
				for length := i + 1; length < min(i+20, len(b)); length++ {
					expectDecoded(t, string(b[:length]))
				}
			}
		}
	}
}

// P6.2: every string of up to three of these pieces behind the magic number.
func TestEverySequence(t *testing.T) {
	pieces := []string{
		"\x00\x00\x00\x00", "\x00\x00\x00\x01", "\x00\x00\x00\x02", "\x00\x01\x00\x00", "\x00\x01\x00\x01", "\x00", "\x01", "OBJ1",
		"\x01\x00\x00\x00\x00\x00\x00\x00\x00\x01f", "\x04\x00\x00\x00\x00\x00\x00\x00\x00\x01f", "\x02\x00\x00\x00\x00\x00\x00\x00\x00\x02fg",
		"\x09\x00\x00\x00\x00\x00\x00\x00\x00\x01f", "\x01\x00\x00\x00\x00\x00\x00\x00\x00\x00", "\x01\x00\x00\x00\x00\x00\x00\x00\x00\xff", "\x03\x00\x00\x00\x00\x00\x00\x00\x03\x01h", "\x03\x00\x00\x00\x00\x00\x00\x00\x02\x01h",
	}
	var extend func(b string, more int)
	extend = func(b string, more int) {
		expectDecoded(t, b)
		if more > 0 {
			for _, piece := range pieces {
				extend(b+piece, more-1)
			}
		}
	}
	extend("OBJ1", 3)
	extend("OBJ1\x00\x00\x00\x02", 3)
}

// P6.2: of several errors the first one in the order of the bytes counts; of one symbol, ErrShort comes before ErrObject.
func TestFirstError(t *testing.T) {
	f, g := symEncoding(strong("f")[0]), symEncoding(strong("g")[0])
	wrong, wrongLong := symEncoding(api.Sym{Name: "f", Bind: 9}), symEncoding(api.Sym{Name: "function", Bind: api.Undef, Size: 1})
	for _, x := range []struct {
		b    string
		want api.Errno
	}{
		{"", api.ErrShort}, {"O", api.ErrShort}, {"OBJ", api.ErrShort}, {"XYZ", api.ErrShort}, {"\x00\x00\x00", api.ErrShort},
		{"XYZZ", api.ErrMagic}, {"OBJ2", api.ErrMagic}, {"obj1\x00\x00\x00\x00", api.ErrMagic}, {"!<arch>\n", api.ErrMagic}, {" OBJ1\x00\x00\x00\x00", api.ErrMagic},
		{"OBJ1", api.ErrShort}, {"OBJ1\xff\xff\xff", api.ErrShort}, {"OBJ1\xff\xff\xff\xff", api.ErrObject},
		{"OBJ1\x00\x00\x00\x01" + wrong[:9], api.ErrShort},
		{"OBJ1\x00\x00\x00\x01" + wrong[:10], api.ErrShort},
		{"OBJ1\x00\x00\x00\x01" + wrong, api.ErrObject},
		{"OBJ1\x00\x00\x00\x01" + wrongLong[:len(wrongLong)-1], api.ErrShort},
		{"OBJ1\x00\x00\x00\x01" + wrongLong, api.ErrObject},
		{"OBJ1\x00\x00\x00\x02" + wrong, api.ErrObject},
		{"OBJ1\x00\x00\x00\x02" + wrong + "\x01", api.ErrObject},
		{"OBJ1\x00\x00\x00\x02" + f, api.ErrShort},
		{"OBJ1\x00\x00\x00\x02" + f + f[:len(f)-1], api.ErrShort},
		{"OBJ1\x00\x00\x00\x02" + f + f, api.ErrObject},
		{"OBJ1\x00\x00\x00\x03" + f + f, api.ErrObject},
		{"OBJ1\x00\x00\x00\x03" + f + g, api.ErrShort},
		{"OBJ1\x00\x00\x00\x03" + f + g + f, api.ErrObject},
		{"OBJ1\x00\x01\x00\x00" + f + g + g, api.ErrObject},
		{"OBJ1\x00\x01\x00\x00" + f + g + wrong, api.ErrObject},
		{"OBJ1\x00\x01\x00\x00" + f + g, api.ErrShort},
		{"OBJ1\x00\x00\x00\x01\x01\x00\x00\x00\x00\x00\x00\x00\x00\x00", api.ErrObject},
	} {
		expectDecodeErr(t, x.b, x.want)
		expectDecoded(t, x.b)
	}
}

func expectFind(t *testing.T, syms []api.Sym, name string, want api.Sym, wantFound bool) {
	t.Helper()
	for _, body := range []string{"", name, "body"} {
		if s, found := objsym.Find(object(syms, body), name); s != want || found != wantFound {
			t.Errorf("Find(%s, %.300q) = %#v, %v; want %#v, %v", describe(syms), name, s, found, want, wantFound)
		}
	}
}

// P6.3: every symbol is found with all its fields, and no other name is.
func TestFind(t *testing.T) {
	for _, s := range sample {
		expectFind(t, sample, s.Name, s, true)
		expectFind(t, []api.Sym{s}, s.Name, s, true)
		expectFind(t, nil, s.Name, api.Sym{}, false)
	}
	for _, name := range []string{"", "F", "c", "co", "om", "comm", "com ", " com", "com\x00", "h", "\x00", strings.Repeat("f", 1000)} {
		expectFind(t, sample, name, api.Sym{}, false)
	}
}

// P6.3: the object need not be valid: the first symbol with the name counts.
func TestFindInInvalidObjects(t *testing.T) {
	syms := []api.Sym{
		{Name: "f", Bind: 9, Size: -1, Align: 3},
		{Name: "g", Bind: api.Undef},
		{Name: "f", Bind: api.Strong},
		{Name: "g", Bind: api.Weak, Size: 4},
		{Name: "", Bind: api.Weak, Size: 5},
		{Name: "a\x00b", Size: 6},
		{Name: strings.Repeat("n", 1000), Size: 7},
		{},
	}
	for i, s := range syms {
		first := slices.IndexFunc(syms, func(other api.Sym) bool { return other.Name == s.Name })
		expectFind(t, syms, s.Name, syms[first], true)
		expectFind(t, syms[i:], s.Name, s, true)
	}
	expectFind(t, []api.Sym{{}}, "", api.Sym{}, true)
	expectFind(t, syms, "a", api.Sym{}, false)
	expectFind(t, syms, "h", api.Sym{}, false)
}

// behind returns the text as a slice of bytes with other bytes in its unused capacity.
func behind(text string) []byte {
	return []byte(text + "unused")[:len(text)]
}

// P6.4: neither the symbols, the body and the bytes change, nor what lies behind them.
func TestArgumentsUnchanged(t *testing.T) {
	for _, last := range []api.Sym{{Name: "l", Bind: api.Weak}, {Name: "f", Bind: api.Weak}} {
		syms := append(slices.Clone(sample), last, api.Sym{Name: "unused"})
		want := slices.Clone(syms)
		body := behind("body")
		o := api.Object{Syms: syms[:len(syms)-1], Body: body}
		objsym.Valid(o)
		objsym.Encode(o)
		objsym.Find(o, "x")
		objsym.Find(o, "unused")
		if !slices.Equal(syms, want) {
			t.Errorf("the symbols were changed to %s", describe(syms))
		}
		text := encoding(o.Syms, "body")
		b := behind(text)
		objsym.Decode(b)
		if string(b[:len(b)+6]) != text+"unused" || string(body[:len(body)+6]) != "bodyunused" {
			t.Errorf("bytes were changed to %q, %q", b[:len(b)+6], body[:len(body)+6])
		}
	}
}

// P6.4: a result changes neither with the arguments nor with another result.
func TestResultsAreNew(t *testing.T) {
	for _, syms := range [][]api.Sym{nil, slices.Clone(sample)} {
		for _, bodyText := range []string{"", "body"} {
			body := []byte(bodyText)
			o := api.Object{Syms: syms, Body: body}
			want := slices.Clone(syms)
			text := encoding(syms, bodyText)
			encoded, _ := objsym.Encode(o)
			other, _ := objsym.Encode(o)
			fill(other, '#')
			argument := []byte(text)
			first, _ := objsym.Decode(argument)
			second, _ := objsym.Decode(argument)
			fill(first.Body, '#')
			clear(first.Syms[:cap(first.Syms)])
			if !slices.Equal(syms, want) || string(body) != bodyText || string(argument) != text {
				t.Errorf("with a result, an argument was changed to %s, %q, %q", describe(syms), body, argument)
			}
			fill(argument, '#')
			fill(body, '#')
			clear(syms)
			if string(encoded) != text || !slices.Equal(second.Syms, want) || string(second.Body) != bodyText {
				t.Errorf("after changes of another result and the arguments, the results are %q, %s, %q", encoded, describe(second.Syms), second.Body)
			}
			copy(syms, want)
		}
	}
}

// fill overwrites the bytes, and those behind them that belong to the same memory.
func fill(b []byte, c byte) {
	b = b[:cap(b)]
	copy(b, bytes.Repeat([]byte{c}, len(b)))
}
