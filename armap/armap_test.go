package armap_test

import (
	"bytes"
	"encoding/binary"
	"fmt"
	"math"
	"slices"
	"strings"
	"testing"

	"arlink/api"
	"arlink/armap"
)

// encoding is the encoding of entries by the chapter, whether they fit or not.
func encoding(l []api.Entry) string {
	b := binary.BigEndian.AppendUint32(nil, uint32(len(l)))
	for _, e := range l {
		b = binary.BigEndian.AppendUint32(b, uint32(e.Offset))
	}
	for _, name := range names(l) {
		b = append(b, name+"\x00"...)
	}
	return string(b)
}

// entryFits is the chapter's definition.
func entryFits(e api.Entry) bool {
	return len(e.Name) >= 1 && !strings.Contains(e.Name, "\x00") && e.Offset >= 0 && e.Offset <= 4294967295
}

// decoded is the chapter's promise P7.2: it finds the entries whose encoding is b, or none.
func decoded(b string) ([]api.Entry, bool) {
	if len(b) < 4 {
		return nil, false
	}
	count := uint64(binary.BigEndian.Uint32([]byte(b)))
	start := 4 + 4*count
	if start > uint64(len(b)) {
		return nil, false
	}
	names := strings.SplitAfter(b[start:], "\x00")
	if uint64(len(names)) != count+1 || names[count] != "" {
		return nil, false
	}
	var l []api.Entry
	for i, name := range names[:count] {
		l = append(l, api.Entry{Name: name[:len(name)-1], Offset: int(binary.BigEndian.Uint32([]byte(b[4+4*i:])))})
	}
	return l, !slices.ContainsFunc(l, func(e api.Entry) bool { return !entryFits(e) })
}

func names(l []api.Entry) []string {
	var list []string
	for _, e := range l {
		list = append(list, e.Name)
	}
	return list
}

func describe(l []api.Entry) string {
	text := fmt.Sprintf("%d entries", len(l))
	for _, e := range l[:min(len(l), 6)] {
		text += fmt.Sprintf(" {%.300q %d}", e.Name, e.Offset)
	}
	return text
}

// expectFit checks everything that the chapter promises of entries that fit.
func expectFit(t *testing.T, l []api.Entry) {
	t.Helper()
	want := encoding(l)
	b, err := armap.Encode(l)
	if string(b) != want || err != api.OK {
		t.Errorf("Encode(%s) = %.999q, %d; want %.999q", describe(l), b, err, want)
	}
	if size := armap.Size(names(l)); size != len(want) {
		t.Errorf("Size of the names of %s = %d, want %d", describe(l), size, len(want))
	}
	expectDecode(t, want, l)
	expectDecode(t, string(b), l)
}

// expectNoFit checks everything that the chapter promises of entries of which one does not fit.
func expectNoFit(t *testing.T, l []api.Entry) {
	t.Helper()
	if b, err := armap.Encode(l); b != nil || err != api.ErrFit {
		t.Errorf("Encode(%s) = %.999q, %d; want the error %d", describe(l), b, err, api.ErrFit)
	}
}

func expectDecode(t *testing.T, b string, want []api.Entry) {
	t.Helper()
	l, err := armap.Decode([]byte(b))
	if !slices.Equal(l, want) || err != api.OK {
		t.Errorf("Decode(%.999q) = %s, %d; want %s", b, describe(l), err, describe(want))
		return
	}
	if again, err := armap.Encode(l); string(again) != b || err != api.OK {
		t.Errorf("Encode(Decode(%.999q)) = %.999q, %d", b, again, err)
	}
}

func expectDecodeErr(t *testing.T, b string) {
	t.Helper()
	if l, err := armap.Decode([]byte(b)); l != nil || err != api.ErrMap {
		t.Errorf("Decode(%.999q) = %s, %d; want the error %d", b, describe(l), err, api.ErrMap)
	}
}

// expectDecoded compares with the chapter's promise, whatever b is.
func expectDecoded(t *testing.T, b string) {
	t.Helper()
	if l, ok := decoded(b); ok {
		expectDecode(t, b, l)
	} else {
		expectDecodeErr(t, b)
	}
}

// expectEntry puts an entry alone and between others, and compares with the chapter's definition.
func expectEntry(t *testing.T, e api.Entry) {
	t.Helper()
	a, b := api.Entry{Name: "first", Offset: 8}, api.Entry{Name: "last", Offset: 1 << 20}
	for _, l := range [][]api.Entry{{e}, {e, a, b}, {a, e, b}, {a, b, e}, {e, e}} {
		if entryFits(e) {
			expectFit(t, l)
		} else {
			expectNoFit(t, l)
		}
	}
}

func count(n uint32) string {
	return string(binary.BigEndian.AppendUint32(nil, n))
}

// P7.1, P7.2, P7.3: the chapter's example, and maps written out.
func TestWrittenOut(t *testing.T) {
	for _, x := range []struct {
		l    []api.Entry
		want string
	}{
		{nil, "\x00\x00\x00\x00"},
		{[]api.Entry{}, "\x00\x00\x00\x00"},
		{[]api.Entry{{Name: "f", Offset: 0}}, "\x00\x00\x00\x01" + "\x00\x00\x00\x00" + "f\x00"},
		{[]api.Entry{{Name: "main", Offset: 0x01020304}}, "\x00\x00\x00\x01" + "\x01\x02\x03\x04" + "main\x00"},
		{
			[]api.Entry{{Name: "main", Offset: 136}, {Name: "g", Offset: 0xfffefdfc}, {Name: "f", Offset: 136}},
			"\x00\x00\x00\x03" + "\x00\x00\x00\x88" + "\xff\xfe\xfd\xfc" + "\x00\x00\x00\x88" + "main\x00" + "g\x00" + "f\x00",
		},
	} {
		b, err := armap.Encode(x.l)
		if string(b) != x.want || err != api.OK {
			t.Errorf("Encode(%s) = %q, %d; want %q", describe(x.l), b, err, x.want)
		}
		if size := armap.Size(names(x.l)); size != len(x.want) {
			t.Errorf("Size(%q) = %d, want %d", names(x.l), size, len(x.want))
		}
		expectDecode(t, x.want, x.l)
		expectFit(t, x.l)
	}
}

// P7.1, P7.2, P7.4: offsets at and next to every limit, among them those that would fit in their last 32 bits.
func TestOffsets(t *testing.T) {
	for i := range 63 {
		for _, n := range []int{1<<i - 1, 1 << i, 1<<i + 1, -(1 << i), -(1 << i) - 1} {
			expectEntry(t, api.Entry{Name: "f", Offset: n})
		}
	}
	for _, n := range []int{0x01020304, 0xfffefdfc, 4294967294, 4294967295, 4294967296, 1<<33 + 8, math.MaxInt, math.MinInt, math.MinInt + 8} {
		expectEntry(t, api.Entry{Name: "f", Offset: n})
	}
}

// P7.1, P7.2, P7.3, P7.4: names of many lengths and of every byte.
func TestNames(t *testing.T) {
	for length := range 600 {
		expectEntry(t, api.Entry{Name: strings.Repeat("n", length), Offset: 68})
	}
	for _, length := range []int{65535, 65536, 65537, 1 << 20} {
		expectEntry(t, api.Entry{Name: strings.Repeat("n", length), Offset: 68})
	}
	for c := range 256 {
		b := string([]byte{byte(c)})
		for _, name := range []string{b, b + "x", "x" + b + "x", "x" + b, strings.Repeat(b, 300), strings.Repeat("x", 300) + b} {
			expectEntry(t, api.Entry{Name: name, Offset: 68})
		}
	}
	for _, name := range []string{" ", "\n", "/", "a b", "\u00e9", "\xff\xfe", "\ufffd", "\u0100", "\U00010000"} {
		expectEntry(t, api.Entry{Name: name, Offset: 68})
	}
}

// P7.1: one entry that does not fit is enough, whatever is wrong and wherever it is.
func TestOneDoesNotFit(t *testing.T) {
	for _, wrong := range []api.Entry{{}, {Name: "", Offset: 8}, {Name: "\x00"}, {Name: "f\x00"}, {Name: "f", Offset: -1}, {Name: "f", Offset: 1 << 32}, {Name: "", Offset: -1}} {
		for length := 1; length <= 5; length++ {
			for i := range length {
				l := make([]api.Entry, length)
				for j := range l {
					l[j] = api.Entry{Name: "f", Offset: j}
				}
				expectFit(t, l)
				l[i] = wrong
				expectNoFit(t, l)
			}
		}
	}
}

// P7.1, P7.2, P7.3, P7.4: lists of many lengths, whose entries are neither sorted nor all different.
func TestLists(t *testing.T) {
	var l []api.Entry
	for i := range 70000 {
		l = append(l, api.Entry{Name: fmt.Sprintf("f%d", i*7919%1000), Offset: i * 65537 % 9973})
	}
	for _, length := range []int{0, 1, 2, 3, 127, 128, 255, 256, 257, 65535, 65536, 65537, 70000} {
		expectFit(t, l[:length])
	}
	f, g, h := api.Entry{Name: "f", Offset: 300}, api.Entry{Name: "g", Offset: 200}, api.Entry{Name: "f", Offset: 200}
	for _, l := range [][]api.Entry{{f, g}, {g, f}, {f, f}, {f, h}, {h, f}, {f, g, h}, {h, g, f}, {g, h, f}, {f, f, f}} {
		expectFit(t, l)
	}
}

// P7.2: bytes that are no encoding, each for another reason.
func TestNoEncoding(t *testing.T) {
	for _, b := range []string{
		"", "\x00", "\x00\x00\x00", "abc", "!<arch>\n", "OBJ1\x00\x00\x00\x00",
		count(0) + "\x00", count(0) + "f\x00", count(0) + "f", count(0) + count(0),
		count(1), count(1) + "\x00\x00\x00", count(1) + count(8), count(1) + count(8) + "f", count(1) + count(8) + "\x00",
		count(1) + count(8) + "f\x00g", count(1) + count(8) + "f\x00\x00", count(1) + count(8) + "f\x00g\x00", count(1) + count(8) + "\x00f\x00",
		count(2) + count(8), count(2) + count(8) + "f\x00", count(2) + count(8) + count(9), count(2) + count(8) + count(9) + "f\x00",
		count(2) + count(8) + count(9) + "f\x00g", count(2) + count(8) + count(9) + "f\x00\x00", count(2) + count(8) + count(9) + "\x00g\x00",
		count(2) + count(8) + count(9) + "f\x00g\x00\x00", count(2) + count(8) + count(9) + "f\x00g\x00h", count(2) + count(8) + count(9) + "f\x00g\x00h\x00",
		"\x01\x00\x00\x00" + count(8) + "f\x00", "\x00\x00\x01\x00" + count(8) + "f\x00",
	} {
		expectDecodeErr(t, b)
		if _, ok := decoded(b); ok {
			t.Errorf("the tests take %q for an encoding", b)
		}
	}
}

// P7.2: a number of entries that is too great for the bytes, among them those whose offsets would have few bytes in 32 bits.
func TestCountTooGreat(t *testing.T) {
	for _, n := range []uint32{3, 4, 255, 256, 65536, 1 << 24, 1<<29 - 1, 1 << 29, 1<<30 - 1, 1 << 30, 1<<30 + 1, 1<<30 + 2, 1<<31 - 1, 1 << 31, 1<<31 + 1, 3 << 30, 3<<30 + 2, 1<<32 - 2, 1<<32 - 1} {
		for _, rest := range []string{"", "\x00", count(8), count(8) + "f\x00", count(8) + count(9) + "f\x00g\x00", strings.Repeat("\x00", 11)} {
			expectDecodeErr(t, count(n)+rest)
		}
	}
	expectDecodeErr(t, count(1<<18)+strings.Repeat("f\x00\x00\x00", 1<<18))
	expectDecodeErr(t, count(1<<18)+strings.Repeat("f\x00\x00\x00", 1<<18)+strings.Repeat("f\x00", 1<<18-1))
	expectDecoded(t, count(1<<18)+strings.Repeat("f\x00\x00\x00", 1<<18)+strings.Repeat("f\x00", 1<<18))
}

// sample has entries with names of several lengths, one of which occurs twice.
var sample = []api.Entry{
	{Name: "main", Offset: 68},
	{Name: "f", Offset: 0},
	{Name: "\u00e9 x", Offset: 1<<32 - 1},
	{Name: "f", Offset: 0x01020304},
	{Name: "\x01", Offset: 1 << 24},
}

// P7.2: every prefix of an encoding, and every encoding with bytes behind it.
func TestEveryPrefix(t *testing.T) {
	for length := range len(sample) + 1 {
		b := encoding(sample[:length])
		for end := range b {
			expectDecodeErr(t, b[:end])
			expectDecoded(t, b[:end])
		}
		for _, rest := range []string{"\x00", "x", "x\x00", "\x00\x00", "\x00x\x00", b} {
			expectDecodeErr(t, b+rest)
		}
	}
}

// P7.2: every byte of an encoding changed to every other one, taken away, and doubled.
func TestEveryChange(t *testing.T) {
	text := encoding(sample)
	for i := range text {
		for c := range 256 {
			b := []byte(text)
			b[i] = byte(c)
			expectDecoded(t, string(b))
		}
		expectDecoded(t, text[:i]+text[i+1:])
		expectDecoded(t, text[:i+1]+text[i:])
	}
}

// P7.2, P7.4: every short text of these bytes behind every small number of entries.
func TestEveryText(t *testing.T) {
	var extend func(b string, more int)
	extend = func(b string, more int) {
		expectDecoded(t, b)
		if more > 0 {
			for _, piece := range []string{"\x00", "\x01", "f"} {
				extend(b+piece, more-1)
			}
		}
	}
	extend("", 7)
	for n := range uint32(4) {
		extend(count(n), 7)
		extend(count(n)+strings.Repeat("\x00\x01\x02\xff", int(n)), 7)
	}
}

// P7.3: the size depends on nothing but the lengths of the names.
func TestSize(t *testing.T) {
	for _, x := range []struct {
		names []string
		want  int
	}{
		{nil, 4}, {[]string{}, 4}, {[]string{"f"}, 10}, {[]string{"main"}, 13}, {[]string{"\u00e9"}, 11}, {[]string{"\xff\n"}, 11},
		{[]string{"f", "g"}, 16}, {[]string{"f", "f"}, 16}, {[]string{"f", "main", "g"}, 25}, {[]string{strings.Repeat("n", 1000)}, 1009},
		{slices.Repeat([]string{"name"}, 100000), 900004},
	} {
		if size := armap.Size(x.names); size != x.want {
			t.Errorf("Size of %d names = %d, want %d", len(x.names), size, x.want)
		}
	}
	for length := 1; length < 300; length++ {
		l := []api.Entry{{Name: strings.Repeat("n", length)}, {Name: strings.Repeat("m", 300-length), Offset: 1 << 31}, {Name: strings.Repeat("n", length), Offset: length}}
		expectFit(t, l)
	}
}

// P7.5: neither the entries, the names and the bytes change, nor what lies behind them.
func TestArgumentsUnchanged(t *testing.T) {
	for _, last := range []api.Entry{{Name: "last", Offset: 4}, {Name: "", Offset: 4}, {Name: "last", Offset: -1}} {
		l := append(slices.Clone(sample), last, api.Entry{Name: "unused", Offset: 5})
		want := slices.Clone(l)
		armap.Encode(l[:len(l)-1])
		if !slices.Equal(l, want) {
			t.Errorf("the entries were changed to %s", describe(l))
		}
	}
	list := append(names(sample), "unused")
	wantNames := slices.Clone(list)
	armap.Size(list[:len(list)-1])
	if !slices.Equal(list, wantNames) {
		t.Errorf("the names were changed to %q", list)
	}
	for _, text := range []string{encoding(nil), encoding(sample), encoding(sample) + "x", encoding(sample)[:40], "\x00"} {
		b := []byte(text + "unused")
		armap.Decode(b[:len(text)])
		if string(b) != text+"unused" {
			t.Errorf("the bytes %q were changed to %q", text, b)
		}
	}
}

// P7.5: a result changes neither with the arguments nor with another result.
func TestResultsAreNew(t *testing.T) {
	for _, l := range [][]api.Entry{nil, slices.Clone(sample[:1]), slices.Clone(sample)} {
		want := slices.Clone(l)
		text := encoding(l)
		encoded, _ := armap.Encode(l)
		other, _ := armap.Encode(l)
		fill(other, '#')
		argument := []byte(text)
		first, _ := armap.Decode(argument)
		second, _ := armap.Decode(argument)
		clear(first[:cap(first)])
		if !slices.Equal(l, want) || string(argument) != text {
			t.Errorf("with a result, an argument was changed to %s, %q", describe(l), argument)
		}
		fill(argument, '#')
		clear(l)
		if string(encoded) != text || !slices.Equal(second, want) {
			t.Errorf("after changes of another result and the arguments, the results are %q, %s", encoded, describe(second))
		}
	}
}

// fill overwrites the bytes, and those behind them that belong to the same memory.
func fill(b []byte, c byte) {
	b = b[:cap(b)]
	copy(b, bytes.Repeat([]byte{c}, len(b)))
}
