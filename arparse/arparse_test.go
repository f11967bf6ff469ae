package arparse_test

import (
	"bytes"
	"fmt"
	"regexp"
	"slices"
	"strconv"
	"strings"
	"testing"
	"unsafe"

	"arlink/api"
	"arlink/arparse"
	"arlink/header"
	"arlink/longname"
)

const (
	magic    = "!<arch>\n"
	longName = "a-very-long-name.o"
)

// part is the encoding of a part with a name field and data; its numbers are those of ordinaryMember.
func part(field, data string) string {
	numbers := fmt.Sprintf("%-12d%-6d%-6d%-8o", 1700000000, 1000, 100, 0o644)
	if field == "//" {
		numbers = strings.Repeat(" ", 32)
	}
	text := fmt.Sprintf("%-16s%s%-10d`\n%s", field, numbers, len(data), data)
	if len(data)%2 == 1 {
		text += "\n"
	}
	return text
}

func ordinaryMember(name, data string) api.Member {
	return api.Member{Name: name, Time: 1700000000, UID: 1000, GID: 100, Mode: 0o644, Data: []byte(data)}
}

func sameMember(a, b api.Member) bool {
	return a.Name == b.Name && a.Time == b.Time && a.UID == b.UID && a.GID == b.GID && a.Mode == b.Mode && bytes.Equal(a.Data, b.Data)
}

func sameArchive(a, b arparse.Archive) bool {
	return a.HasMap == b.HasMap && bytes.Equal(a.Map, b.Map) && slices.Equal(a.Offsets, b.Offsets) && slices.EqualFunc(a.Members, b.Members, sameMember)
}

func isZero(a arparse.Archive) bool {
	return !a.HasMap && a.Map == nil && a.Members == nil && a.Offsets == nil
}

func expectIs(t *testing.T, text string, want bool) {
	t.Helper()
	if got := arparse.Is([]byte(text)); got != want {
		t.Errorf("Is(%q) = %v", text, got)
	}
}

func expectArchive(t *testing.T, text string, want arparse.Archive) {
	t.Helper()
	a, offset, err := arparse.Parse([]byte(text))
	if !sameArchive(a, want) || offset != 0 || err != api.OK {
		t.Errorf("Parse(%q) = %+v, %d, %d; want %+v", text, a, offset, err, want)
	}
}

func expectError(t *testing.T, text string, wantOffset int, want api.Errno) {
	t.Helper()
	a, offset, err := arparse.Parse([]byte(text))
	if !isZero(a) || offset != wantOffset || err != want {
		t.Errorf("Parse(%q) = %+v, %d, %d; want the offset %d and the error %d", text, a, offset, err, wantOffset, want)
	}
}

// P4.1: the magic number, with any bytes behind it, and what only resembles it.
func TestIs(t *testing.T) {
	for _, text := range []string{magic, magic + "\n", magic + magic, magic + "x", magic + "\x00", magic + part("a/", ""), magic + strings.Repeat("\xff", 1000)} {
		expectIs(t, text, true)
	}
	if arparse.Is(nil) {
		t.Error("Is(nil) = true")
	}
	for _, text := range []string{"", "!", "\n", "!<arch>", "!<arch>\r\n", "!<arch> \n", "!<ARCH>\n", "!<thin>\n", " " + magic, "\n" + magic, "x" + magic, "!<arch>\r", "!<arch>\x00", "<arch>\n", "!<arch\n>", "!<arch\n", part("a/", "")} {
		expectIs(t, text, false)
	}
}

// P4.1: each of the eight bytes counts, and no other one does.
func TestIsEveryByte(t *testing.T) {
	text := magic + "12"
	for i := range text {
		expectIs(t, text[:i], i >= len(magic))
		for c := range 256 {
			b := []byte(text)
			b[i] = byte(c)
			expectIs(t, string(b), i >= len(magic) || byte(c) == text[i])
		}
	}
}

// P4.2: the chapter's examples.
func TestExamples(t *testing.T) {
	expectArchive(t, magic, arparse.Archive{})
	for c := range 256 {
		expectError(t, magic+string([]byte{byte(c)}), 8, api.ErrShort)
	}
}

// P4.2: archives written out, byte by byte.
func TestWrittenOut(t *testing.T) {
	expectArchive(t, "!<arch>\na.o/            1700000000  1000  100   100644  3         `\nabc\n", arparse.Archive{
		Members: []api.Member{{Name: "a.o", Time: 1700000000, UID: 1000, GID: 100, Mode: 0o100644, Data: []byte("abc")}},
		Offsets: []int{8},
	})
	expectArchive(t, "!<arch>\n"+
		"/               0           0     0     0       4         `\n\x00\x00\x00\x00"+
		"//                                              20        `\na-very-long-name.o/\n"+
		"/0              1           2     3     4       0         `\n"+
		"b.o/            999999999999999999999999777777772         `\n\n\n"+
		"/0              0           0     0     0       1         `\nx\n", arparse.Archive{
		HasMap: true,
		Map:    []byte{0, 0, 0, 0},
		Members: []api.Member{
			{Name: "a-very-long-name.o", Time: 1, UID: 2, GID: 3, Mode: 4},
			{Name: "b.o", Time: 999999999999, UID: 999999, GID: 999999, Mode: 0o77777777, Data: []byte("\n\n")},
			{Name: "a-very-long-name.o", Data: []byte("x")},
		},
		Offsets: []int{152, 212, 274},
	})
}

// P4.2: a map and a table may be there or not, with data or without, and their data is no member's.
func TestMapAndTable(t *testing.T) {
	member := part("a.o/", "a")
	members := []api.Member{ordinaryMember("a.o", "a")}
	for _, data := range []string{"", "m", "mm", "mmm\n", "\n", "\n\n", "\n\n\n", "\x00\x00\x00\x00", magic, part("x/", "y"), "not a map"} {
		archive := magic + part("/", data)
		expectArchive(t, archive, arparse.Archive{HasMap: true, Map: []byte(data)})
		expectArchive(t, archive+member, arparse.Archive{HasMap: true, Map: []byte(data), Members: members, Offsets: []int{len(archive)}})
	}
	for _, names := range []string{"", "a/\n", "x/\ny/\n", longName + "/\n", " /\n", strings.Repeat("n", 255) + "/\n"} {
		archive := magic + part("//", names)
		expectArchive(t, archive, arparse.Archive{})
		expectArchive(t, archive+member, arparse.Archive{Members: members, Offsets: []int{len(archive)}})
		archive = magic + part("/", "m") + part("//", names)
		expectArchive(t, archive, arparse.Archive{HasMap: true, Map: []byte("m")})
		expectArchive(t, archive+member, arparse.Archive{HasMap: true, Map: []byte("m"), Members: members, Offsets: []int{len(archive)}})
	}
}

// P4.2: data of every length, of bytes that could be taken for padding, a header or another archive.
func TestData(t *testing.T) {
	for _, filler := range []string{"\n", "x", "`\n", magic, part("a/", ""), part("/", ""), "\x00\xff"} {
		for size := range 200 {
			data := strings.Repeat(filler, size/len(filler)+1)[:size]
			first := magic + part("a/", data)
			expectArchive(t, first, arparse.Archive{Members: []api.Member{ordinaryMember("a", data)}, Offsets: []int{8}})
			expectArchive(t, first+part("b/", data), arparse.Archive{
				Members: []api.Member{ordinaryMember("a", data), ordinaryMember("b", data)},
				Offsets: []int{8, len(first)},
			})
		}
	}
}

// P4.2: a part that ends too early, or not at all.
func TestErrShort(t *testing.T) {
	for length := range magic {
		expectError(t, magic[:length], 0, api.ErrShort)
		expectError(t, strings.Repeat("x", length), 0, api.ErrShort)
	}
	if a, offset, err := arparse.Parse(nil); !isZero(a) || offset != 0 || err != api.ErrShort {
		t.Errorf("Parse(nil) = %+v, %d, %d", a, offset, err)
	}
	whole := part("a/", "abc")
	for length := 1; length < len(whole); length++ {
		expectError(t, magic+whole[:length], 8, api.ErrShort)
		expectError(t, magic+part("b/", "d")+whole[:length], 70, api.ErrShort)
		expectError(t, magic+part("/", "d")+part("//", "d/\n")+whole[:length], 134, api.ErrShort)
	}
	// Sizes of data that is not there at all, or lacks a byte or the padding.
	for _, size := range []string{"1", "2", "3", "5", "999999999", "2147483647", "2147483648", "4294967295", "4294967296", "9999999998", "9999999999"} {
		for _, field := range []string{"a/", "/"} {
			text := magic + strings.Replace(part(field, ""), "0         `", fmt.Sprintf("%-10s`", size), 1)
			expectError(t, text, 8, api.ErrShort)
			n, _ := strconv.Atoi(size)
			if n < 10 {
				expectError(t, text+strings.Repeat("\n", n-1), 8, api.ErrShort)
				if n%2 == 1 {
					expectError(t, text+strings.Repeat("\n", n), 8, api.ErrShort)
				}
			}
		}
	}
}

// P4.2: the wrong magic number.
func TestErrMagic(t *testing.T) {
	for _, text := range []string{"!<arch>\r", "!<ARCH>\n", "!<thin>\n", "12345678", " " + magic, "\n" + magic, strings.Repeat("\x00", 8), "!<thin>\n" + part("a/", ""), "!<thin>\nx", part("a/", ""), strings.Repeat("x", 1000)} {
		expectError(t, text, 0, api.ErrMagic)
	}
}

// P4.2: every other byte in place of the padding, of a member, a map and a table.
func TestErrPad(t *testing.T) {
	for c := range 256 {
		if c == '\n' {
			continue
		}
		for _, whole := range []string{part("a/", "abc"), part("a/", "\n\n\n"), part("/", "m"), part("//", "a/\n"), part("/1", "m")} {
			wrong := whole[:len(whole)-1] + string([]byte{byte(c)})
			expectError(t, magic+wrong, 8, api.ErrPad)
			expectError(t, magic+wrong+part("b/", ""), 8, api.ErrPad)
			expectError(t, magic+part("b/", "x")+wrong, 70, api.ErrPad)
		}
	}
}

// P4.2: a map that is not the first part.
func TestErrMap(t *testing.T) {
	for _, first := range []string{part("/", ""), part("/", "m"), part("//", ""), part("//", "a/\n"), part("a/", ""), part("a/", "x"), part("/", "m") + part("//", ""), part("/", "") + part("a/", ""), part("//", "a/\n") + part("/0", "x")} {
		for _, data := range []string{"", "m", "\x00\x00\x00\x00"} {
			expectError(t, magic+first+part("/", data), 8+len(first), api.ErrMap)
			expectError(t, magic+first+part("/", data)+part("b/", ""), 8+len(first), api.ErrMap)
		}
	}
}

// P4.2: a table at a wrong place, and malformed ones at the right places and at wrong ones.
func TestErrTable(t *testing.T) {
	wrongTables := []string{"a", "a/", "a\n", "/\n", "\n", "\n\n", " ", "a/\nb", "a/\n\n", "a//\n", "a/b/\n", "/\na/\n", "a/\r\n", "a\x00/\n", strings.Repeat("n", 256) + "/\n", "a/\n" + strings.Repeat("n", 1000)}
	for _, data := range wrongTables {
		expectError(t, magic+part("//", data), 8, api.ErrTable)
		expectError(t, magic+part("//", data)+part("/0", ""), 8, api.ErrTable)
		expectError(t, magic+part("/", "m")+part("//", data)+part("a/", ""), 70, api.ErrTable)
	}
	for _, first := range []string{part("//", ""), part("//", "a/\n"), part("a/", ""), part("a/", "x"), part("/", "m") + part("a/", ""), part("/", "m") + part("//", ""), part("//", "a/\n") + part("/0", "x"), part("/", "m") + part("//", "a/\n") + part("/0", "x")} {
		for _, data := range append([]string{"", "a/\n", longName + "/\n"}, wrongTables...) {
			expectError(t, magic+first+part("//", data), 8+len(first), api.ErrTable)
			expectError(t, magic+first+part("//", data)+part("b/", ""), 8+len(first), api.ErrTable)
		}
	}
}

// P4.2: name fields that layer 3 resolves, and ones that it does not, with and without a table.
func TestNameFields(t *testing.T) {
	names := "a/\n" + longName + "/\nb /\n"
	for _, x := range []struct{ table, field, name string }{
		{"", "a.o/", "a.o"}, {"", "123456789012345/", "123456789012345"}, {"", " a/", " a"}, {"", "0/", "0"}, {"", "\xff/", "\xff"}, {names, "a/", "a"}, {names, "b/", "b"},
		{names, "/0", "a"}, {names, "/3", longName}, {names, "/23", "b "}, {"z/\n", "/0", "z"},
	} {
		for _, first := range []string{magic, magic + part("/", "m")} {
			archive := first
			if x.table != "" {
				archive += part("//", x.table)
			}
			want := arparse.Archive{HasMap: first != magic, Members: []api.Member{ordinaryMember(x.name, "d")}, Offsets: []int{len(archive)}}
			if want.HasMap {
				want.Map = []byte("m")
			}
			expectArchive(t, archive+part(x.field, "d"), want)
		}
	}
	for _, field := range []string{"a", "a.o", "a /", "/a", "/a/", "a//", "a/b/", "///", "// /", "//0", "/0/", "0", "/00", "/03", "/ 3", "/-3", "/+3", "/0x3", "/1", "/2", "/4", "/22", "/24", "/26", "/27", "/100", "/4294967296", "/4294967299", "/99999999999999", "/999999999999999", "/SYM64/", "/\xff", "1234567890123456"} {
		for _, table := range []string{"", part("//", ""), part("//", names), part("/", "m") + part("//", names)} {
			expectError(t, magic+table+part(field, "d"), 8+len(table), api.ErrName)
			expectError(t, magic+table+part("x/", "")+part(field, "d")+part("y/", ""), 8+len(table)+60, api.ErrName)
		}
	}
	for _, field := range []string{"/0", "/3", "/23"} {
		for _, table := range []string{"", part("/", names), part("//", ""), part("a/", names)} {
			expectError(t, magic+table+part(field, "d"), 8+len(table), api.ErrName)
		}
	}
}

// P4.2: the errors of layer 2 for every byte of every header of an archive; and whatever else a changed byte leads to.
func TestEveryByteOfAnArchive(t *testing.T) {
	text := magic + part("/", "mm") + part("//", "ab/\n"+longName+"/\n") + part("/4", "abc") + part("c.o/", "")
	seen := map[api.Errno]int{}
	for i := range text {
		for c := range 256 {
			b := []byte(text)
			b[i] = byte(c)
			seen[expectReference(t, b)]++
		}
		expectReference(t, []byte(text[:i]))
		expectReference(t, []byte(text[:i]+text[i+1:]))
		for _, c := range []string{"\n", " ", "0", "/", "x", "`"} {
			expectReference(t, []byte(text[:i]+c+text[i:]))
		}
	}
	for _, err := range []api.Errno{api.OK, api.ErrMagic, api.ErrShort, api.ErrField, api.ErrMark, api.ErrPad, api.ErrName, api.ErrTable} {
		if seen[err] == 0 {
			t.Errorf("no change leads to the error %d", err)
		}
	}
}

// expectReference compares Parse with reference, and returns the error.
func expectReference(t *testing.T, b []byte) api.Errno {
	t.Helper()
	want, offset, err := reference(b)
	if err == api.OK {
		expectArchive(t, string(b), want)
	} else {
		expectError(t, string(b), offset, err)
	}
	return err
}

// reference parses by the chapter: first it cuts all the parts, and then it looks at their places and names.
func reference(b []byte) (a arparse.Archive, offset int, err api.Errno) {
	if len(b) < 8 {
		return a, 0, api.ErrShort
	}
	if string(b[:8]) != magic {
		return a, 0, api.ErrMagic
	}
	cuts, headers, end, cutErr := cutParts(b)
	var table []byte
	for i, h := range headers {
		data := b[cuts[i]+60 : cuts[i]+60+h.Size]
		if h.Name == "/" {
			if i != 0 {
				return arparse.Archive{}, cuts[i], api.ErrMap
			}
			a.HasMap, a.Map = true, data
		} else if h.Name == "//" {
			_, tableErr := longname.Entries(data)
			if tableErr != api.OK || i > 1 || i == 1 && headers[0].Name != "/" {
				return arparse.Archive{}, cuts[i], api.ErrTable
			}
			table = data
		} else {
			name, nameErr := longname.Resolve(h.Name, table)
			if nameErr != api.OK {
				return arparse.Archive{}, cuts[i], nameErr
			}
			a.Members = append(a.Members, api.Member{Name: name, Time: h.Time, UID: h.UID, GID: h.GID, Mode: h.Mode, Data: data})
			a.Offsets = append(a.Offsets, cuts[i])
		}
	}
	if cutErr != api.OK {
		return arparse.Archive{}, end, cutErr
	}
	return a, 0, api.OK
}

// cutParts returns the offsets and headers of the parts that can be cut off, and the offset and error of the one that cannot.
func cutParts(b []byte) (cuts []int, headers []header.Header, offset int, err api.Errno) {
	offset = 8
	for offset != len(b) {
		h, err := header.Decode(b[offset:])
		if err != api.OK {
			return cuts, headers, offset, err
		}
		end := offset + 60 + h.Size
		if end > len(b) || end == len(b) && h.Size%2 == 1 {
			return cuts, headers, offset, api.ErrShort
		}
		if h.Size%2 == 1 {
			if b[end] != '\n' {
				return cuts, headers, offset, api.ErrPad
			}
			end++
		}
		cuts, headers, offset = append(cuts, offset), append(headers, h), end
	}
	return cuts, headers, offset, api.OK
}

// sequenceParts are the kinds of parts of TestEverySequence: maps M, tables T and the empty table E, members s with a short name and l with a long one; and the rest with the errors that they have at any place.
var sequenceParts = map[byte]string{
	'M': part("/", "map"),
	'T': part("//", longName+"/\n"),
	'E': part("//", ""),
	's': part("a.o/", "abc"),
	'l': part("/0", "de"),
	'B': part("//", "no table"),
	'x': part("noslash", "f"),
	'p': part("a.o/", "abc")[:63] + "x",
	'f': strings.Replace(part("a.o/", "abc"), "644", "888", 1),
	'k': strings.Replace(part("a.o/", "abc"), "`", "'", 1),
}

var sequenceErrors = map[byte]api.Errno{
	'M': api.ErrMap, 'T': api.ErrTable, 'E': api.ErrTable, 'B': api.ErrTable, 'l': api.ErrName, 'x': api.ErrName, 'p': api.ErrPad, 'f': api.ErrField, 'k': api.ErrMark,
}

// P4.2: all sequences of up to four parts. Those that are archives are a regular language, and the first wrong part ends the first prefix outside of it.
func TestEverySequence(t *testing.T) {
	archives := regexp.MustCompile("^M?(T[sl]*|E?s*)$")
	var extend func(kinds string)
	extend = func(kinds string) {
		text := magic
		want := arparse.Archive{}
		for i := range kinds {
			if !archives.MatchString(kinds[:i+1]) {
				rest := ""
				for j := i; j < len(kinds); j++ {
					rest += sequenceParts[kinds[j]]
				}
				expectError(t, text+rest, len(text), sequenceErrors[kinds[i]])
				break
			}
			switch kinds[i] {
			case 'M':
				want.HasMap, want.Map = true, []byte("map")
			case 's':
				want.Members, want.Offsets = append(want.Members, ordinaryMember("a.o", "abc")), append(want.Offsets, len(text))
			case 'l':
				want.Members, want.Offsets = append(want.Members, ordinaryMember(longName, "de")), append(want.Offsets, len(text))
			}
			text += sequenceParts[kinds[i]]
		}
		if archives.MatchString(kinds) {
			expectArchive(t, text, want)
		}
		if len(kinds) < 4 {
			for kind := range sequenceParts {
				extend(kinds + string([]byte{kind}))
			}
		}
	}
	extend("")
}

// P4.2: of several errors of one part, the one that the chapter names first.
func TestFirstErrorOfAPart(t *testing.T) {
	before := magic + part("/", "m") + part("b/", "")
	order := []api.Errno{api.ErrMark, api.ErrField, api.ErrShort, api.ErrPad}
	for _, last := range []struct {
		text string
		err  api.Errno
	}{{part("/", "abc"), api.ErrMap}, {part("//", "a/\n"), api.ErrTable}, {part("//", "abc"), api.ErrTable}, {part("noslash", "abc"), api.ErrName}, {part("/0", "abc"), api.ErrName}} {
		for faults := range 1 << len(order) {
			b := []byte(last.text)
			want := last.err
			for i := len(order) - 1; i >= 0; i-- {
				if faults&(1<<i) == 0 {
					continue
				}
				want = order[i]
				switch want {
				case api.ErrPad:
					b[63] = 'x'
				case api.ErrShort:
					b = b[:62]
				case api.ErrField:
					b[40] = 'x'
				case api.ErrMark:
					b[59] = 'x'
				}
			}
			expectError(t, before+string(b), len(before), want)
		}
		cut := last.text[:len(last.text)-1]
		expectError(t, before+cut, len(before), api.ErrShort)
	}
	noName := strings.Repeat(" ", 16) + part("a/", "abc")[16:]
	expectError(t, before+noName, len(before), api.ErrName)
	expectError(t, before+noName[:62], len(before), api.ErrName)
	expectError(t, before+noName[:63]+"x", len(before), api.ErrName)
	expectError(t, before+strings.Replace(noName, "644", "888", 1), len(before), api.ErrName)
}

// P4.2: a wrong part counts before all that follow it.
func TestFirstWrongPart(t *testing.T) {
	wrong := map[string]api.Errno{}
	for kind, text := range sequenceParts {
		if strings.IndexByte("Bxpfk", kind) >= 0 {
			wrong[text] = sequenceErrors[kind]
		}
	}
	for text, err := range wrong {
		for _, next := range []string{"x", part("/", ""), part("//", ""), part("x", ""), part("a/", "abc")[:61]} {
			expectError(t, magic+text+next, 8, err)
			expectError(t, magic+part("a/", "")+text+next, 68, err)
		}
		for other := range wrong {
			expectError(t, magic+text+other, 8, err)
		}
	}
}

// P4.2: many members with long names, which may not take the square of the time.
func TestManyMembers(t *testing.T) {
	const count = 100000
	var names, members strings.Builder
	var want arparse.Archive
	for i := range count {
		name := fmt.Sprintf("long-name-of-member-%d.o", i)
		members.WriteString(part("/"+strconv.Itoa(names.Len()), name[20:]))
		names.WriteString(name + "/\n")
		want.Members = append(want.Members, ordinaryMember(name, name[20:]))
	}
	text := magic + part("//", names.String())
	offset := len(text)
	for _, m := range want.Members {
		want.Offsets = append(want.Offsets, offset)
		offset += 60 + (len(m.Data)+1)/2*2
	}
	a, errOffset, err := arparse.Parse([]byte(text + members.String()))
	if !sameArchive(a, want) || errOffset != 0 || err != api.OK {
		t.Errorf("Parse has %d members, and the error %d at %d", len(a.Members), err, errOffset)
	}
}

// P4.3: neither the bytes of the argument nor those behind them change.
func TestArgumentUnchanged(t *testing.T) {
	text := magic + part("/", "map") + part("//", longName+"/\n") + part("/0", "abc") + part("b.o/", "")
	for length := range len(text) + 1 {
		whole := []byte(text)
		arparse.Is(whole[:length])
		arparse.Parse(whole[:length])
		if string(whole) != text {
			t.Fatalf("with %d bytes, the argument was changed to %q", length, whole)
		}
	}
}

// memory is where the bytes of a slice or string lie, with the unused capacity.
type memory struct{ from, to uintptr }

func memoryOf(b []byte) memory {
	from := uintptr(unsafe.Pointer(unsafe.SliceData(b)))
	return memory{from, from + uintptr(cap(b))}
}

func memoryOfString(s string) memory {
	from := uintptr(unsafe.Pointer(unsafe.StringData(s)))
	return memory{from, from + uintptr(len(s))}
}

func (m memory) overlaps(other memory) bool {
	return max(m.from, other.from) < min(m.to, other.to)
}

// P4.3: the bytes and names of an archive lie outside the argument, and each apart from the others.
func TestResultSharesNoMemory(t *testing.T) {
	b := []byte(magic + part("/", "map") + part("//", longName+"/\n") + part("/0", "abc") + part("b.o/", "de") + part("/0", "f") + part("c.o/", ""))
	a, _, err := arparse.Parse(b)
	if err != api.OK {
		t.Fatal(err)
	}
	lots := []memory{memoryOf(b), memoryOf(a.Map)}
	for _, m := range a.Members {
		lots = append(lots, memoryOf(m.Data), memoryOfString(m.Name))
	}
	for i, lot := range lots {
		for j := range i {
			if lot.overlaps(lots[j]) {
				t.Errorf("results %d and %d share memory", j, i)
			}
		}
	}
}

// P4.3: a result changes neither with the argument nor with a later call, and no later call sees what was written to it.
func TestResultsAreNew(t *testing.T) {
	text := magic + part("/", "map") + part("//", longName+"/\n") + part("/0", "abc") + part("b.o/", "de")
	want := arparse.Archive{
		HasMap:  true,
		Map:     []byte("map"),
		Members: []api.Member{ordinaryMember(longName, "abc"), ordinaryMember("b.o", "de")},
		Offsets: []int{152, 216},
	}
	b := []byte(text)
	first, _, _ := arparse.Parse(b)
	second, _, _ := arparse.Parse(b)
	for i := range b {
		b[i] = '#'
	}
	if !sameArchive(first, want) || !sameArchive(second, want) {
		t.Errorf("after a change of the argument, the results are %+v and %+v", first, second)
	}
	for _, data := range [][]byte{first.Map, first.Members[0].Data, first.Members[1].Data} {
		for i := range data[:cap(data)] {
			data[:cap(data)][i] = '#'
		}
	}
	for i := range first.Members {
		first.Members[i], first.Offsets[i] = api.Member{}, -1
	}
	if !sameArchive(second, want) {
		t.Errorf("after a change of another result, the result is %+v", second)
	}
	expectArchive(t, text, want)
}
