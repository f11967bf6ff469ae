package longname_test

import (
	"slices"
	"strconv"
	"strings"
	"testing"
	"unsafe"

	"arlink/api"
	"arlink/longname"
)

var (
	letters15  = strings.Repeat("a", 15)
	letters16  = strings.Repeat("b", 16)
	letters255 = strings.Repeat("c", 255)
)

// shortNames and longNames have every length next to a limit, and what the chapter does not forbid: spaces, bytes that are no letters or no text.
var (
	shortNames = []string{
		"a", "ab", "a.o", "main.o", "0", "17", "a b", " a", "  a", "              a", letters15[1:], letters15,
		".", "..", "-", "`", "\\", "\t", "\r", "a\r", "\x01", "\x1f", "\x7f", "\x80", "\xff", "\xff\xfe", "\u00e9", "\u00a0", "a\u2003", "\u2215", "\ufffd", "!<arch>",
	}
	longNames = []string{
		"a-very-long-name.o", letters16, letters16 + "b", letters255[1:], letters255, " ", "  ", "a ", "a  ", " a ", letters15[1:] + " ", letters15 + " ", letters16 + " ", letters255[1:] + " ",
		" " + letters15, strings.Repeat(" ", 15), strings.Repeat(" ", 16), strings.Repeat(" ", 255), strings.Repeat("\xff", 16), strings.Repeat("\u00e9", 8), "a \u00e9 ",
	}
	wrongNames = []string{
		"", letters255 + "c", letters255 + " ", strings.Repeat(" ", 256), strings.Repeat("\xff", 256), strings.Repeat("a", 1000),
		"/", "//", "a/", "/a", "a/b", "a.o/", "/0", " /", "/ ", "\n", "a\n", "\na", "a\nb", "/\n", "a/\n", "\x00", "a\x00", "\x00a", "a\x00b",
		letters15 + "/", letters16 + "/", letters16 + "\n", letters16 + "\x00", letters255[1:] + "/", letters255[1:] + "\n", letters255[1:] + "\x00", "\xff/", "\xff\n", "\xff\x00",
	}
)

// isName tells by the chapter's definition whether a string is a name.
func isName(text string) bool {
	for i := range len(text) {
		if c := text[i]; c == '/' || c == '\n' || c == 0 {
			return false
		}
	}
	return len(text) > 0 && len(text) < 256
}

// isShort tells by the chapter's definition whether a name is short.
func isShort(name string) bool {
	return len(name) < 16 && name[len(name)-1] != ' '
}

// tableOf is the table of some names.
func tableOf(names ...string) string {
	text := ""
	for _, name := range names {
		text += name + "/\n"
	}
	return text
}

// namesOf tells by the chapter's definition whose table a text is, and where each of the names begins in it.
func namesOf(text string) (names []string, offsets map[int]string, isTable bool) {
	offsets = map[int]string{}
	pieces := strings.Split(text, "/\n")
	last := len(pieces) - 1
	offset := 0
	for _, piece := range pieces[:last] {
		if !isName(piece) {
			return nil, nil, false
		}
		names = append(names, piece)
		offsets[offset] = piece
		offset += len(piece) + 2
	}
	return names, offsets, pieces[last] == ""
}

// stringsOver calls visit with each string over an alphabet of at most a length.
func stringsOver(alphabet string, longest int, visit func(text string)) {
	var extend func(text string)
	extend = func(text string) {
		visit(text)
		if len(text) < longest {
			for i := range len(alphabet) {
				extend(text + alphabet[i:i+1])
			}
		}
	}
	extend("")
}

func expectKind(t *testing.T, name string, valid, short bool) {
	t.Helper()
	if got := longname.Valid(name); got != valid {
		t.Errorf("Valid(%q) = %v", name, got)
	}
	if got := longname.Short(name); got != short {
		t.Errorf("Short(%q) = %v", name, got)
	}
}

func expectBuild(t *testing.T, names []string, wantTable string, wantFields []string, wantErr api.Errno) {
	t.Helper()
	table, fields, err := longname.Build(names)
	if string(table) != wantTable || !slices.Equal(fields, wantFields) || err != wantErr || err != api.OK && (table != nil || fields != nil) {
		t.Errorf("Build(%q) = %q, %q, %d; want %q, %q, %d", names, table, fields, err, wantTable, wantFields, wantErr)
	}
}

func expectEntries(t *testing.T, table string, want []string, wantErr api.Errno) {
	t.Helper()
	names, err := longname.Entries([]byte(table))
	if !slices.Equal(names, want) || err != wantErr || err != api.OK && names != nil {
		t.Errorf("Entries(%q) = %q, %d; want %q, %d", table, names, err, want, wantErr)
	}
}

func expectResolve(t *testing.T, field, table, want string, wantErr api.Errno) {
	t.Helper()
	name, err := longname.Resolve(field, []byte(table))
	if name != want || err != wantErr {
		t.Errorf("Resolve(%q, %q) = %q, %d; want %q, %d", field, table, name, err, want, wantErr)
	}
}

// P3.1: short names, long ones, and strings that are no names.
func TestKinds(t *testing.T) {
	for _, name := range shortNames {
		expectKind(t, name, true, true)
	}
	for _, name := range longNames {
		expectKind(t, name, true, false)
	}
	for _, name := range wrongNames {
		expectKind(t, name, false, false)
	}
}

// P3.1: every length, of letters and with a space as the last byte.
func TestEveryLength(t *testing.T) {
	for length := range 600 {
		valid := 1 <= length && length <= 255
		expectKind(t, strings.Repeat("x", length), valid, valid && length <= 15)
		if length > 0 {
			expectKind(t, strings.Repeat("x", length-1)+" ", valid, false)
			expectKind(t, strings.Repeat(" ", length-1)+"x", valid, valid && length <= 15)
		}
	}
}

// P3.1: every byte as the only, the first, a middle and the last one, of names that would be short or long.
func TestEveryByte(t *testing.T) {
	for c := range 256 {
		b := string([]byte{byte(c)})
		valid := c != '/' && c != '\n' && c != 0
		for _, text := range []string{"", "x", letters15[2:], letters15[1:]} {
			expectKind(t, text+b, valid, valid && c != ' ')
			expectKind(t, b+text, valid, valid && (c != ' ' || text != ""))
		}
		expectKind(t, "x"+b+"x", valid, valid)
		for _, text := range []string{letters15, letters16, letters255[1:]} {
			expectKind(t, text+b, valid, false)
			expectKind(t, b+text, valid, false)
			expectKind(t, text[1:9]+b+text[8:], valid, false)
		}
	}
}

// P3.2: the chapter's example, and tables written out.
func TestBuildWrittenOut(t *testing.T) {
	expectBuild(t, nil, "", nil, api.OK)
	expectBuild(t, []string{}, "", nil, api.OK)
	expectBuild(t, []string{"a.o", "a-very-long-name.o"}, "a-very-long-name.o/\n", []string{"a.o/", "/0"}, api.OK)
	expectBuild(t, []string{"a.o", "b.o", "a.o"}, "", []string{"a.o/", "b.o/", "a.o/"}, api.OK)
	expectBuild(t, []string{letters15, letters16}, letters16+"/\n", []string{letters15 + "/", "/0"}, api.OK)
	expectBuild(t, []string{"a ", " a", " "}, "a /\n /\n", []string{"/0", " a/", "/4"}, api.OK)
	expectBuild(t, []string{letters16, "x", letters16, letters255, "0", letters16},
		letters16+"/\n"+letters16+"/\n"+letters255+"/\n"+letters16+"/\n", []string{"/0", "x/", "/18", "/36", "0/", "/293"}, api.OK)
}

// P3.2: fields and table of all names, in both orders and each of them twice.
func TestBuildInOrder(t *testing.T) {
	names := append(slices.Clone(shortNames), longNames...)
	backwards := slices.Clone(names)
	slices.Reverse(backwards)
	for _, list := range [][]string{names, backwards, append(names, backwards...)} {
		table := ""
		var fields []string
		for _, name := range list {
			if isShort(name) {
				fields = append(fields, name+"/")
			} else {
				fields = append(fields, "/"+strconv.Itoa(len(table)))
				table += name + "/\n"
			}
		}
		expectBuild(t, list, table, fields, api.OK)
	}
}

// P3.2: a string that is no name is an error wherever it stands.
func TestBuildErrName(t *testing.T) {
	for _, wrong := range wrongNames {
		for _, names := range [][]string{{wrong}, {wrong, "a"}, {"a", wrong}, {letters16, wrong}, {letters16, wrong, "a", letters16}, {"a", letters16, "a ", wrong, wrong}} {
			expectBuild(t, names, "", nil, api.ErrName)
		}
	}
}

// P3.3: tables of long names and of short ones, and the empty table.
func TestEntriesOfTables(t *testing.T) {
	expectEntries(t, "", nil, api.OK)
	expectEntries(t, "a-very-long-name.o/\n", []string{"a-very-long-name.o"}, api.OK)
	expectEntries(t, "a.o/\na.o/\n /\n", []string{"a.o", "a.o", " "}, api.OK)
	for _, name := range slices.Concat(shortNames, longNames) {
		expectEntries(t, tableOf(name), []string{name}, api.OK)
		expectEntries(t, tableOf("x", name, name, letters255), []string{"x", name, name, letters255}, api.OK)
	}
	all := slices.Concat(longNames, shortNames, longNames)
	expectEntries(t, tableOf(all...), all, api.OK)
}

// P3.3: malformed tables.
func TestEntriesErrTable(t *testing.T) {
	for _, table := range []string{
		"a", "a/", "a\n", "/", "\n", "/\n", "\n/", "\x00", " ", "a/\nb", "a/\nb/", "a/\nb\n", "a/\n/\n", "a/\n/", "a/\n\n", "/\na/\n", "a//\n", "a/b/\n", "a\n/\n", "a/\n\nb/\n", "a/\r\n", "a\x00/\n", "a/\n\x00", "a/\n ", "a/\nb\x00/\n", "\x00a/\n",
		letters255, letters255 + "/", letters255 + "c/\n", tableOf("a", letters255+"c"), tableOf(letters255+"c", "a"), tableOf(letters255) + letters255,
	} {
		expectEntries(t, table, nil, api.ErrTable)
	}
	for _, wrong := range wrongNames {
		if names, _, isTable := namesOf(tableOf(wrong)); isTable {
			t.Fatalf("the table of %q is that of %q", wrong, names)
		}
		expectEntries(t, tableOf(wrong), nil, api.ErrTable)
		expectEntries(t, tableOf(letters16, wrong), nil, api.ErrTable)
		expectEntries(t, tableOf(wrong, letters16), nil, api.ErrTable)
	}
}

// P3.3: of all short texts over an alphabet, exactly the tables are accepted.
func TestEntriesOfAllTexts(t *testing.T) {
	tables := 0
	stringsOver("/\n\x00 a", 8, func(text string) {
		names, _, isTable := namesOf(text)
		if !isTable {
			expectEntries(t, text, nil, api.ErrTable)
			return
		}
		tables++
		expectEntries(t, text, names, api.OK)
	})
	if tables < 100 {
		t.Errorf("only %d of the texts are tables", tables)
	}
}

// P3.4: short names need no table.
func TestResolveShort(t *testing.T) {
	for _, table := range []string{"", "x/\n", "a-very-long-name.o/\n", tableOf(longNames...)} {
		for _, name := range shortNames {
			expectResolve(t, name+"/", table, name, api.OK)
		}
		for _, name := range slices.Concat(longNames, wrongNames) {
			expectResolve(t, name+"/", table, "", api.ErrName)
		}
	}
}

// P3.4: offsets of long names, and of short ones that are in the table.
func TestResolveOffsets(t *testing.T) {
	expectResolve(t, "/0", "a-very-long-name.o/\n", "a-very-long-name.o", api.OK)
	expectResolve(t, "/0", "a.o/\n", "a.o", api.OK)
	expectResolve(t, "/0", " /\n", " ", api.OK)
	table := tableOf(slices.Concat(longNames, shortNames, longNames)...)
	_, offsets, _ := namesOf(table)
	for offset := range len(table) + 300 {
		want, isStart := offsets[offset]
		wantErr := api.ErrName
		if isStart {
			wantErr = api.OK
		}
		expectResolve(t, "/"+strconv.Itoa(offset), table, want, wantErr)
	}
}

// P3.4: fields of other forms, for tables in which a number that is read carelessly would be an offset.
func TestResolveErrName(t *testing.T) {
	for _, table := range []string{"", "a/\nbb/\nccc/\n", "7/\n", tableOf(longNames...)} {
		for _, field := range []string{
			"", "/", "//", "///", " /", "a", "a.o", "0", "00", "0/0", "a/0", "/a", "/a/", "/0/", "/0/0", "//0", "a//", "/a.o/", "a/ ", "a/\n", "a/\x00", "a\n/", "a\x00/", " ", "\n", "\x00", letters15, letters16, letters16 + "/",
			"/00", "/03", "/000", "/ 0", "/0 ", "/0  ", "/3 ", "/ ", "/-0", "/+0", "/-1", "/+3", "/0x0", "/0x3", "/0b0", "/0o3", "/3.", "/3.0", "/3e0", "/0_0", "/_3", "/3,", "/3\t", "/0\n", "/\n0", "/3\x00", "/\x00", "/\u0663", "/\uff10", "/\xb0", "/:", "/0:", "/3a",
			"/1000", "/99999999999999", "/100000000000000", "/999999999999999", "/1000000000000000", "/9999999999999999", "/000000000000000", "/000000000000003", "/0000000000000000", "/00000000000000000000",
			"/4294967296", "/4294967299", "/9223372036854775807", "/9223372036854775808", "/18446744073709551616", "/18446744073709551619", "/340282366920938463463374607431768211456", "/" + strings.Repeat("0", 1000), "/" + strings.Repeat("3", 1000), "/0" + strings.Repeat(" ", 17), "/0" + strings.Repeat(" ", 14), "/0" + strings.Repeat(" ", 13),
		} {
			expectResolve(t, field, table, "", api.ErrName)
		}
	}
}

// P3.4: all short fields over an alphabet, for several tables.
func TestResolveAllFields(t *testing.T) {
	for _, table := range []string{"", "a/\n", " /\n", "a/\nb/\nc /\nabcd/\n", tableOf(letters16, "x", letters255)} {
		names, offsets, isTable := namesOf(table)
		if !isTable {
			t.Fatalf("%q is not a table", table)
		}
		expectEntries(t, table, names, api.OK)
		expected := map[string]string{}
		for offset, name := range offsets {
			expected["/"+strconv.Itoa(offset)] = name
		}
		stringsOver("/0123469 a\n\x00", 5, func(field string) {
			want, found := expected[field]
			if name, ends := strings.CutSuffix(field, "/"); ends && isName(name) && isShort(name) {
				want, found = name, true
			}
			wantErr := api.ErrName
			if found {
				wantErr = api.OK
			}
			expectResolve(t, field, table, want, wantErr)
		})
	}
}

// P3.5: the fields of a table with many entries are resolved to the names, and fit the name field of a header.
func TestBuiltFieldsAreResolved(t *testing.T) {
	names := slices.Concat(shortNames, longNames)
	for i := range 20000 {
		number := strconv.Itoa(i)
		names = append(names, number, number+" ", strings.Repeat("n", 250)+number[:1], number+letters16, letters16)
	}
	table, fields, err := longname.Build(names)
	if err != api.OK || len(fields) != len(names) {
		t.Fatalf("Build has %d fields for %d names, and the error %d", len(fields), len(names), err)
	}
	var long []string
	for i, name := range names {
		if got, err := longname.Resolve(fields[i], table); got != name || err != api.OK {
			t.Fatalf("Resolve(%q) = %q, %d; want %q", fields[i], got, err, name)
		}
		if field := fields[i]; len(field) > 16 || strings.HasSuffix(field, " ") {
			t.Fatalf("the field of %q is %q", name, field)
		}
		if !isShort(name) {
			long = append(long, name)
		}
	}
	if got, err := longname.Entries(table); !slices.Equal(got, long) || err != api.OK {
		t.Errorf("Entries has %d names and the error %d; want %d names", len(got), err, len(long))
	}
}

// For bytes that are no table P3.4 promises nothing, but the call still ends, with a name or with ErrName.
func TestResolveWithoutTable(t *testing.T) {
	for _, table := range []string{"a", "/", "\n", "/\n", "a/", "a\nb", "a/\n/\n", "\n\n\n\n", "a/\nb", letters255 + "c/\n", strings.Repeat("x", 1000)} {
		for offset := range len(table) + 2 {
			name, err := longname.Resolve("/"+strconv.Itoa(offset), []byte(table))
			if (err == api.OK) != isName(name) || err != api.OK && (name != "" || err != api.ErrName) {
				t.Errorf("Resolve(%d, %q) = %q, %d", offset, table, name, err)
			}
		}
		expectResolve(t, "a.o/", table, "a.o", api.OK)
	}
}

// P3.6: neither the elements of an argument nor those behind them change.
func TestArgumentsUnchanged(t *testing.T) {
	for _, text := range []string{"", "a/\nb/\n", "a/\nb", "/\n", tableOf(longNames...)} {
		whole := []byte(text + "#####")
		table := whole[:len(text)]
		longname.Entries(table)
		for _, field := range []string{"/0", "/3", "a/", "/", "x"} {
			longname.Resolve(field, table)
		}
		if string(whole) != text+"#####" {
			t.Errorf("%q was changed to %q", text, whole)
		}
	}
	for _, names := range [][]string{{"a", letters16, "b "}, {letters16, ""}} {
		whole := append(slices.Clone(names), "#", "##")
		longname.Build(whole[:len(names)])
		if !slices.Equal(whole, append(slices.Clone(names), "#", "##")) {
			t.Errorf("%q was changed to %q", names, whole)
		}
	}
}

// overlap reports whether two byte sequences have memory in common.
func overlap(a, b *byte, lengthA, lengthB int) bool {
	from, other := uintptr(unsafe.Pointer(a)), uintptr(unsafe.Pointer(b))
	return lengthA > 0 && lengthB > 0 && from < other+uintptr(lengthB) && other < from+uintptr(lengthA)
}

func overlapStrings(a, b string) bool {
	return overlap(unsafe.StringData(a), unsafe.StringData(b), len(a), len(b))
}

// P3.6: what is resolved and built has no memory in common with the strings that it was made of.
func TestResultsShareNoStrings(t *testing.T) {
	for _, field := range []string{"a.o/", letters15 + "/"} {
		name, _ := longname.Resolve(field, nil)
		if name == "" || overlapStrings(name, field) {
			t.Errorf("Resolve(%q) = %q shares memory", field, name)
		}
	}
	names := []string{"a.o", letters15, letters16, "a "}
	table, fields, _ := longname.Build(names)
	for _, name := range names {
		for _, field := range fields {
			if overlapStrings(name, field) || overlap(unsafe.SliceData(table), unsafe.StringData(name), cap(table), len(name)) {
				t.Errorf("Build shares memory with %q", name)
			}
		}
	}
}

// P3.6: names do not change with the table that they come from.
func TestNamesOutliveTable(t *testing.T) {
	table := []byte("first-long-name.o/\nb/\n")
	names, _ := longname.Entries(table)
	first, _ := longname.Resolve("/0", table)
	second, _ := longname.Resolve("/19", table)
	for i := range table {
		table[i] = '#'
	}
	if want := []string{"first-long-name.o", "b"}; !slices.Equal(names, want) || first != want[0] || second != want[1] {
		t.Errorf("after a change of the table, the names are %q, %q and %q", names, first, second)
	}
}

// P3.6: a result changes neither with a later call nor with another result, and no later call sees what was written to it or behind it.
func TestResultsAreNew(t *testing.T) {
	names := []string{"a", letters16, "b "}
	wantTable, wantFields := tableOf(letters16, "b "), []string{"a/", "/0", "/18"}
	table, fields, _ := longname.Build(names)
	entries, _ := longname.Entries(table)
	again, _ := longname.Entries(table)
	longname.Build([]string{letters255, "x"})
	if string(table) != wantTable || !slices.Equal(fields, wantFields) || !slices.Equal(entries, names[1:]) {
		t.Errorf("after other calls, the results are %q, %q and %q", table, fields, entries)
	}
	for i := range table[:cap(table)] {
		table[:cap(table)][i] = '#'
	}
	for _, list := range [][]string{fields, entries} {
		for i := range list[:cap(list)] {
			list[:cap(list)][i] = "#"
		}
	}
	if !slices.Equal(names, []string{"a", letters16, "b "}) || !slices.Equal(again, names[1:]) {
		t.Errorf("after a change of results, the names are %q and the entries %q", names, again)
	}
	expectBuild(t, names, wantTable, wantFields, api.OK)
	expectEntries(t, wantTable, names[1:], api.OK)
}
