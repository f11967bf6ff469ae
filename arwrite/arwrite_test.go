package arwrite_test

import (
	"bytes"
	"fmt"
	"slices"
	"strconv"
	"strings"
	"testing"
	"unsafe"

	"arlink/api"
	"arlink/arparse"
	"arlink/arwrite"
)

const (
	magic    = "!<arch>\n"
	longName = "a-very-long-name.o"
)

// part is the encoding of a part by the chapters 2 and 4.
func part(field, numbers, data string) string {
	text := fmt.Sprintf("%-16s%-32s%-10d`\n%s", field, numbers, len(data), data)
	if len(data)%2 == 1 {
		text += "\n"
	}
	return text
}

func mapPart(data string) string {
	return part("/", "0           0     0     0", data)
}

func tablePart(names ...string) string {
	return part("//", "", strings.Join(names, "/\n")+"/\n")
}

func memberPart(field string, m api.Member) string {
	return part(field, fmt.Sprintf("%-12d%-6d%-6d%-8o", m.Time, m.UID, m.GID, m.Mode), string(m.Data))
}

// archive is the archive of members by the chapter, and the offsets of their headers.
func archive(hasMap bool, m string, l []api.Member) (text string, offsets []int) {
	text = magic
	if hasMap {
		text += mapPart(m)
	}
	table := ""
	fields := make([]string, len(l))
	for i, member := range l {
		if len(member.Name) < 16 && member.Name[len(member.Name)-1] != ' ' {
			fields[i] = member.Name + "/"
		} else {
			fields[i] = "/" + strconv.Itoa(len(table))
			table += member.Name + "/\n"
		}
	}
	if table != "" {
		text += tablePart(table[:len(table)-2])
	}
	var rest strings.Builder
	for i, member := range l {
		offsets = append(offsets, len(text)+rest.Len())
		rest.WriteString(memberPart(fields[i], member))
	}
	return text + rest.String(), offsets
}

func ordinaryMember(name, data string) api.Member {
	return api.Member{Name: name, Time: 1700000000, UID: 1000, GID: 100, Mode: 0o100644, Data: []byte(data)}
}

func sameMember(a, b api.Member) bool {
	return a.Name == b.Name && a.Time == b.Time && a.UID == b.UID && a.GID == b.GID && a.Mode == b.Mode && bytes.Equal(a.Data, b.Data)
}

// describe tells what members there are without their data, which may be long, or not there at all.
func describe(l []api.Member) string {
	text := ""
	for _, m := range l[:min(len(l), 10)] {
		text += fmt.Sprintf("{%q %d %d %d %#o, %d bytes}", m.Name, m.Time, m.UID, m.GID, m.Mode, len(m.Data))
	}
	return text
}

func expectFits(t *testing.T, l []api.Member, wantIndex int, want api.Errno) {
	t.Helper()
	if index, err := arwrite.Fits(l); index != wantIndex || err != want {
		t.Errorf("Fits(%s) = %d, %d; want %d, %d", describe(l), index, err, wantIndex, want)
	}
}

func expectArchive(t *testing.T, hasMap bool, m []byte, l []api.Member, want string) {
	t.Helper()
	b, err := arwrite.Write(hasMap, m, l)
	if string(b) != want || err != api.OK {
		t.Errorf("Write(%v, %.999q, %s) = %.999q, %d; want %.999q", hasMap, m, describe(l), b, err, want)
	}
}

func expectOffsets(t *testing.T, hasMap bool, mapSize int, l []api.Member, want []int) {
	t.Helper()
	if offsets := arwrite.Offsets(hasMap, mapSize, l); !slices.Equal(offsets, want) {
		t.Errorf("Offsets(%v, %d, %s) = %d; want %d", hasMap, mapSize, describe(l), offsets, want)
	}
}

// expectAll checks everything that the chapter promises of members that fit, with a map and without.
func expectAll(t *testing.T, l []api.Member) {
	t.Helper()
	expectFits(t, l, -1, api.OK)
	for _, m := range []string{"", "m", "map\n"} {
		for _, hasMap := range []bool{false, true} {
			text, offsets := archive(hasMap, m, l)
			expectArchive(t, hasMap, []byte(m), l, text)
			expectOffsets(t, hasMap, len(m), l, offsets)
			expectRoundTrip(t, hasMap, m, l)
		}
	}
}

// expectRoundTrip checks what layer 4 parses, and what is written of that.
func expectRoundTrip(t *testing.T, hasMap bool, m string, l []api.Member) {
	t.Helper()
	b, _ := arwrite.Write(hasMap, []byte(m), l)
	a, offset, err := arparse.Parse(b)
	if err != api.OK {
		t.Errorf("Parse(%.999q) has the error %d at %d", b, err, offset)
		return
	}
	if !hasMap {
		m = ""
	}
	if a.HasMap != hasMap || string(a.Map) != m || !slices.EqualFunc(a.Members, l, sameMember) {
		t.Errorf("Parse(%.999q) = %v, %.999q, %s; want the map %v, %.999q and the members %s", b, a.HasMap, a.Map, describe(a.Members), hasMap, m, describe(l))
	}
	if offsets := arwrite.Offsets(hasMap, len(m), l); !slices.Equal(a.Offsets, offsets) {
		t.Errorf("Parse(%.999q) has the offsets %d; want %d", b, a.Offsets, offsets)
	}
	expectArchive(t, a.HasMap, a.Map, a.Members, string(b))
}

// expectMisfit checks everything that the chapter promises of members that do not all fit.
func expectMisfit(t *testing.T, l []api.Member, index int, want api.Errno) {
	t.Helper()
	expectFits(t, l, index, want)
	for _, hasMap := range []bool{false, true} {
		if b, err := arwrite.Write(hasMap, []byte("map"), l); b != nil || err != want {
			t.Errorf("Write(%v, .., %s) = %.999q, %d; want the error %d", hasMap, describe(l), b, err, want)
		}
		expectOffsets(t, hasMap, 3, l, nil)
	}
}

// expectMisfitAnywhere puts a member that does not fit alone and between others that do.
func expectMisfitAnywhere(t *testing.T, m api.Member, want api.Errno) {
	t.Helper()
	a, b := ordinaryMember("a.o", "abc"), ordinaryMember(longName, "de")
	expectMisfit(t, []api.Member{m}, 0, want)
	expectMisfit(t, []api.Member{m, a, b}, 0, want)
	expectMisfit(t, []api.Member{a, m, b}, 1, want)
	expectMisfit(t, []api.Member{a, b, m}, 2, want)
}

// P5.2: the chapter's example, and the first two of the document.
func TestExamples(t *testing.T) {
	expectArchive(t, false, nil, nil, magic)
	b, err := arwrite.Write(false, nil, []api.Member{{Name: "a.o", Data: []byte("abc")}})
	if len(b) != 8+60+3+1 || b[len(b)-1] != '\n' || err != api.OK {
		t.Errorf("the archive of a.o is %q, %d", b, err)
	}
	name := "a-long-name-16.o"
	expectArchive(t, false, nil, []api.Member{{Name: name}}, magic+tablePart(name)+memberPart("/0", api.Member{}))
	expectArchive(t, false, nil, []api.Member{{Name: name[1:]}}, magic+memberPart(name[1:]+"/", api.Member{}))
}

// P5.2: archives written out, byte by byte.
func TestWrittenOut(t *testing.T) {
	expectArchive(t, false, nil, []api.Member{ordinaryMember("a.o", "abc")},
		"!<arch>\na.o/            1700000000  1000  100   100644  3         `\nabc\n")
	expectArchive(t, true, []byte{0, 0, 0, 0}, []api.Member{
		{Name: "a-very-long-name.o", Time: 1, UID: 2, GID: 3, Mode: 4},
		{Name: "b.o", Time: 999999999999, UID: 999999, GID: 999999, Mode: 0o77777777, Data: []byte("\n\n")},
		{Name: "a ", Data: []byte("x")},
	}, "!<arch>\n"+
		"/               0           0     0     0       4         `\n\x00\x00\x00\x00"+
		"//                                              24        `\na-very-long-name.o/\na /\n"+
		"/0              1           2     3     4       0         `\n"+
		"b.o/            999999999999999999999999777777772         `\n\n\n"+
		"/20             0           0     0     0       1         `\nx\n")
}

// P5.2, P5.3: the map is written as it is, also if it is nil or no map of layer 7; without hasMap it has no effect.
func TestMap(t *testing.T) {
	members := []api.Member{ordinaryMember("a.o", "abc"), ordinaryMember(longName, "de")}
	rest := tablePart(longName) + memberPart("a.o/", members[0]) + memberPart("/0", members[1])
	expectArchive(t, true, nil, nil, magic+mapPart(""))
	expectArchive(t, true, nil, members, magic+mapPart("")+rest)
	expectArchive(t, false, nil, members, magic+rest)
	for _, m := range []string{"", "m", "mm", "mmm\n", "\n", "\n\n", "\x00\x00\x00\x00", magic, memberPart("x/", members[0]), strings.Repeat("\xff", 999), strings.Repeat("\x00", 100000)} {
		expectArchive(t, true, []byte(m), nil, magic+mapPart(m))
		expectArchive(t, true, []byte(m), members, magic+mapPart(m)+rest)
		expectArchive(t, false, []byte(m), nil, magic)
		expectArchive(t, false, []byte(m), members, magic+rest)
		expectRoundTrip(t, true, m, members)
		expectRoundTrip(t, false, m, members)
		at := 8 + len(mapPart(m)) + 80
		expectOffsets(t, true, len(m), members, []int{at, at + 64})
		expectOffsets(t, false, len(m), members, []int{88, 152})
		expectOffsets(t, true, len(m), nil, nil)
	}
}

// P5.3: maps of sizes that no test has the bytes of, up to those that do not fit.
func TestOffsetsBehindLargeMaps(t *testing.T) {
	members := []api.Member{ordinaryMember("a.o", "abc"), ordinaryMember("b.o", "de")}
	for _, size := range []int{1 << 20, 1<<20 + 2, 1<<31 - 2, 1 << 31, 1<<32 - 2, 1 << 32, 9999999998, 10000000000, 1 << 40} {
		for _, odd := range []int{0, 1} {
			at := 8 + 60 + size
			expectOffsets(t, true, size-odd, members, []int{at, at + 64})
			expectOffsets(t, false, size-odd, members, []int{8, 72})
		}
	}
}

// P5.1 to P5.4: data of every length, of bytes that could be taken for padding, a header or another archive.
func TestData(t *testing.T) {
	for _, filler := range []string{"\n", "x", "`\n", magic, mapPart(""), "\x00\xff"} {
		for size := range 130 {
			data := strings.Repeat(filler, size/len(filler)+1)[:size]
			expectAll(t, []api.Member{ordinaryMember("a", data)})
			expectAll(t, []api.Member{ordinaryMember("a", data), ordinaryMember(longName, data[size/2:])})
		}
	}
	expectAll(t, []api.Member{{Name: "nil"}, {Name: "empty", Data: []byte{}}, {Name: "large", Data: make([]byte, 1<<20+1)}, {Name: "last"}})
}

// P5.1 to P5.4: names of every length and of every byte, in the table or not.
func TestNames(t *testing.T) {
	for _, filler := range []string{"a", " ", "\xff"} {
		for length := 1; length <= 255; length++ {
			expectAll(t, []api.Member{ordinaryMember(strings.Repeat(filler, length), "abc"), ordinaryMember("b.o", "d")})
		}
	}
	for c := range 256 {
		if c == '/' || c == '\n' || c == 0 {
			continue
		}
		b := string([]byte{byte(c)})
		for _, name := range []string{b, b + "x", "x" + b, "x" + b + "x", strings.Repeat(b, 15), longName + b, b + longName} {
			expectAll(t, []api.Member{ordinaryMember(name, "abc")})
		}
	}
	for _, name := range []string{".", "..", "!<arch>", "0", "`", "a b", " a", "a ", "a  ", "123456789012345", "1234567890123456", "12345678901234 ", "123456789012345 ", "\u00e9 "} {
		expectAll(t, []api.Member{ordinaryMember(name, "abc"), ordinaryMember(name, "")})
	}
}

// P5.2: the long names are in the table in the order of the members, one for each of them, and the short ones are not.
func TestTable(t *testing.T) {
	a, b, other := ordinaryMember("a.o", "abc"), ordinaryMember("b ", ""), ordinaryMember("c.o", "")
	long, longest := ordinaryMember(longName, "d"), ordinaryMember(strings.Repeat("n", 255), "ef")
	for _, x := range []struct {
		members []api.Member
		want    string
	}{
		{[]api.Member{a, other}, memberPart("a.o/", a) + memberPart("c.o/", other)},
		{[]api.Member{a, long}, tablePart(longName) + memberPart("a.o/", a) + memberPart("/0", long)},
		{[]api.Member{long, a}, tablePart(longName) + memberPart("/0", long) + memberPart("a.o/", a)},
		{[]api.Member{b, long}, tablePart("b ", longName) + memberPart("/0", b) + memberPart("/4", long)},
		{[]api.Member{long, b}, tablePart(longName, "b ") + memberPart("/0", long) + memberPart("/20", b)},
		{[]api.Member{long, long}, tablePart(longName, longName) + memberPart("/0", long) + memberPart("/20", long)},
		{[]api.Member{long, a, long, other, long}, tablePart(longName, longName, longName) + memberPart("/0", long) + memberPart("a.o/", a) + memberPart("/20", long) + memberPart("c.o/", other) + memberPart("/40", long)},
		{[]api.Member{longest, a, b, long}, tablePart(longest.Name, "b ", longName) + memberPart("/0", longest) + memberPart("a.o/", a) + memberPart("/257", b) + memberPart("/261", long)},
	} {
		expectArchive(t, false, nil, x.members, magic+x.want)
		expectArchive(t, true, []byte("map"), x.members, magic+mapPart("map")+x.want)
		expectAll(t, x.members)
	}
}

// sequenceMembers differ in what the layout of an archive depends on.
var sequenceMembers = []api.Member{
	ordinaryMember("a.o", ""),
	ordinaryMember("b.o", "odd"),
	ordinaryMember("c.o", "even"),
	ordinaryMember(longName, ""),
	ordinaryMember("an-other-long-name.o", "odd"),
	{Name: "d "},
}

// P5.1 to P5.4: all sequences of up to four members, with repetitions.
func TestEverySequence(t *testing.T) {
	var extend func(l []api.Member)
	extend = func(l []api.Member) {
		expectAll(t, l)
		if len(l) < 4 {
			for _, m := range sequenceMembers {
				extend(append(slices.Clone(l), m))
			}
		}
	}
	extend(nil)
}

// P5.1, P5.2, P5.3: strings that are no names.
func TestErrName(t *testing.T) {
	wrong := []string{
		"", strings.Repeat("a", 256), strings.Repeat(" ", 256), strings.Repeat("\xff", 256), strings.Repeat("a", 1000),
		"/", "//", "a/", "/a", "a/b", "/0", " /", "/ ", "\n", "a\n", "\na", "/\n", "\x00", "a\x00", "\x00a",
	}
	for _, c := range []string{"/", "\n", "\x00"} {
		for i := range longName {
			wrong = append(wrong, longName[:i]+c+longName[i:], longName[:i]+c)
		}
	}
	for _, name := range wrong {
		expectMisfitAnywhere(t, ordinaryMember(name, "abc"), api.ErrName)
		expectMisfitAnywhere(t, api.Member{Name: name}, api.ErrName)
	}
}

// numbers are the variables of a member's numbers, with the greatest ones that fit.
var numbers = []struct {
	name     string
	variable func(m *api.Member) *int
	greatest int
}{
	{"Time", func(m *api.Member) *int { return &m.Time }, 999999999999},
	{"UID", func(m *api.Member) *int { return &m.UID }, 999999},
	{"GID", func(m *api.Member) *int { return &m.GID }, 999999},
	{"Mode", func(m *api.Member) *int { return &m.Mode }, 0o77777777},
}

// P5.1 to P5.4: numbers next to the limits of their fields, for short and long names.
func TestNumbers(t *testing.T) {
	for _, name := range []string{"a.o", "b ", longName} {
		for _, x := range numbers {
			m := ordinaryMember(name, "abc")
			for _, n := range []int{0, 1, 7, 8, 9, 10, 63, 64, 99, 100, x.greatest / 10, x.greatest - 1, x.greatest} {
				*x.variable(&m) = n
				expectAll(t, []api.Member{m, ordinaryMember("b.o", "d")})
			}
			for _, n := range []int{x.greatest + 1, x.greatest * 10, 1 << 40, 1<<62 + 1, 1<<63 - 1, -1, -x.greatest, -1 << 32, -1 << 63} {
				*x.variable(&m) = n
				expectMisfitAnywhere(t, m, api.ErrFit)
			}
		}
	}
	expectAll(t, []api.Member{{Name: "a.o"}, {Name: longName, Time: 999999999999, UID: 999999, GID: 999999, Mode: 0o77777777}})
}

// P5.1, P5.3: the number of bytes next to the limit of its field. Nothing but the length of such data may be looked at, since it is not there.
func TestSizeOfData(t *testing.T) {
	var first byte
	dataOf := func(size int) []byte { return unsafe.Slice(&first, size) }
	for _, name := range []string{"a.o", longName} {
		for _, size := range []int{10000000000, 10000000001, 1 << 40} {
			expectMisfitAnywhere(t, api.Member{Name: name, Data: dataOf(size)}, api.ErrFit)
		}
	}
	expectMisfitAnywhere(t, api.Member{Name: "a/", Data: dataOf(10000000000)}, api.ErrName)
	for _, size := range []int{1<<31 + 2, 1<<32 + 2, 10000000000} {
		l := []api.Member{{Name: "a.o", Data: dataOf(size - 1)}, {Name: "b.o", Data: dataOf(size - 2)}, {Name: "c.o"}}
		expectFits(t, l, -1, api.OK)
		expectOffsets(t, false, 0, l, []int{8, 68 + size, 126 + 2*size})
		expectOffsets(t, true, size, l, []int{68 + size, 128 + 2*size, 186 + 3*size})
	}
}

// P5.1: of several errors of one member the name's counts; of several members the first one, whatever the errors are.
func TestFirstError(t *testing.T) {
	wrongName, wrongNumber := api.Member{Name: "a/"}, api.Member{Name: longName, UID: 1000000}
	for _, x := range numbers {
		both := api.Member{Name: ""}
		*x.variable(&both) = -1
		expectMisfitAnywhere(t, both, api.ErrName)
		both.Name = longName + "\n"
		*x.variable(&both) = x.greatest + 1
		expectMisfitAnywhere(t, both, api.ErrName)
		expectMisfit(t, []api.Member{both, wrongNumber}, 0, api.ErrName)
		expectMisfit(t, []api.Member{wrongNumber, both}, 0, api.ErrFit)
	}
	fine := ordinaryMember("a.o", "abc")
	expectMisfit(t, []api.Member{wrongName, wrongNumber}, 0, api.ErrName)
	expectMisfit(t, []api.Member{wrongNumber, wrongName}, 0, api.ErrFit)
	expectMisfit(t, []api.Member{fine, wrongName, fine, wrongNumber}, 1, api.ErrName)
	expectMisfit(t, []api.Member{fine, wrongNumber, fine, wrongName}, 1, api.ErrFit)
	expectMisfit(t, []api.Member{fine, fine, wrongNumber, wrongNumber}, 2, api.ErrFit)
	expectMisfit(t, []api.Member{fine, fine, fine, wrongName}, 3, api.ErrName)
	expectFits(t, nil, -1, api.OK)
	expectFits(t, []api.Member{}, -1, api.OK)
}

// P5.4: an archive of layer 4 that no result is, because its table has a short name, is parsed, but written in another way.
func TestOnlyResultsAreWrittenAgain(t *testing.T) {
	m := ordinaryMember("a.o", "abc")
	a, _, err := arparse.Parse([]byte(magic + tablePart("a.o", "unused") + memberPart("/0", m)))
	if err != api.OK {
		t.Fatal(err)
	}
	expectArchive(t, a.HasMap, a.Map, a.Members, magic+memberPart("a.o/", m))
}

// P5.2, P5.3: many members with long names, which may not take the square of the time.
func TestManyMembers(t *testing.T) {
	const count = 100000
	var members []api.Member
	var names, rest strings.Builder
	for i := range count {
		m := ordinaryMember(fmt.Sprintf("long-name-of-member-%d.o", i), strconv.Itoa(i))
		members = append(members, m)
		rest.WriteString(memberPart("/"+strconv.Itoa(names.Len()), m))
		names.WriteString(m.Name + "/\n")
	}
	table := tablePart(strings.TrimSuffix(names.String(), "/\n"))
	b, err := arwrite.Write(true, []byte("map"), members)
	if string(b) != magic+mapPart("map")+table+rest.String() || err != api.OK {
		t.Errorf("the archive has %d bytes and the error %d", len(b), err)
	}
	a, _, err := arparse.Parse(b)
	if !slices.EqualFunc(a.Members, members, sameMember) || err != api.OK {
		t.Errorf("Parse has %d members, and the error %d", len(a.Members), err)
	}
	if offsets := arwrite.Offsets(true, 3, members); !slices.Equal(offsets, a.Offsets) {
		t.Errorf("there are %d offsets", len(offsets))
	}
}

// behind returns the text as a slice of bytes with other bytes in its unused capacity.
func behind(text string) []byte {
	return []byte(text + "unused")[:len(text)]
}

// P5.5: neither the map, the members and their data change, nor what lies behind them.
func TestArgumentsUnchanged(t *testing.T) {
	wrong := ordinaryMember("a/", "abc")
	for _, last := range []api.Member{ordinaryMember("b.o", "f"), wrong} {
		m := behind("map")
		l := []api.Member{ordinaryMember("a.o", ""), ordinaryMember(longName, ""), last, ordinaryMember("unused", "de")}
		l[0].Data, l[1].Data = behind("abc"), behind("de")
		want := slices.Clone(l)
		l = l[:3]
		arwrite.Fits(l)
		arwrite.Offsets(true, 3, l)
		for _, hasMap := range []bool{false, true} {
			arwrite.Write(hasMap, m, l)
		}
		if !slices.EqualFunc(l[:4], want, sameMember) {
			t.Errorf("the members were changed to %s", describe(l[:4]))
		}
		for i, text := range []string{"abc", "de"} {
			if string(want[i].Data) != text || &want[i].Data[0] != &l[i].Data[0] {
				t.Errorf("the data of the member %d was changed to %q", i, want[i].Data)
			}
		}
		for _, b := range [][]byte{m, want[0].Data, want[1].Data} {
			if !bytes.HasSuffix(b[:len(b)+6], []byte("unused")) {
				t.Errorf("the bytes behind an argument were changed: %q", b[:len(b)+6])
			}
		}
		if string(m) != "map" {
			t.Errorf("the map was changed to %q", m)
		}
	}
}

// P5.5: a result changes neither with the arguments nor with another result, and no later call sees what was written to it.
func TestResultsAreNew(t *testing.T) {
	for _, count := range []int{0, 1, 2} {
		for _, hasMap := range []bool{false, true} {
			m := []byte("map")
			l := []api.Member{ordinaryMember("a.o", "abc"), ordinaryMember(longName, "de")}[:count]
			text, wantOffsets := archive(hasMap, "map", l)
			first, _ := arwrite.Write(hasMap, m, l)
			second, _ := arwrite.Write(hasMap, m, l)
			firstOffsets, secondOffsets := arwrite.Offsets(hasMap, 3, l), arwrite.Offsets(hasMap, 3, l)
			for i := range first[:cap(first)] {
				first[:cap(first)][i] = '#'
			}
			for i := range firstOffsets[:cap(firstOffsets)] {
				firstOffsets[:cap(firstOffsets)][i] = -1
			}
			if string(m) != "map" {
				t.Errorf("with a result, the map was changed to %q", m)
			}
			expectArchive(t, hasMap, m, l, text)
			for i := range l {
				for j := range l[i].Data {
					l[i].Data[j] = '#'
				}
				l[i] = api.Member{}
			}
			copy(m, "###")
			if string(second) != text || !slices.Equal(secondOffsets, wantOffsets) {
				t.Errorf("after changes of another result and the arguments, the results are %q, %d", second, secondOffsets)
			}
		}
	}
}
