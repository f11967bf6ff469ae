package libscript_test

import (
	"bytes"
	"fmt"
	"slices"
	"strconv"
	"strings"
	"testing"

	"arlink/api"
	"arlink/arwrite"
	"arlink/consist"
	"arlink/edit"
	"arlink/librarian"
	"arlink/libscript"
	"arlink/objsym"
	"arlink/symindex"
)

const (
	magic    = "!<arch>\n"
	longName = "a-very-long-name.o"
)

// object is the encoding of an object that defines the names.
func object(names ...string) []byte {
	var o api.Object
	for _, name := range names {
		o.Syms = append(o.Syms, api.Sym{Name: name, Bind: api.Strong, Size: 8})
	}
	b, err := objsym.Encode(o)
	if err != api.OK {
		panic(err)
	}
	return b
}

// member is the one that a line makes of a file with the data.
func member(name, data string) api.Member {
	return api.Member{Name: name, Data: []byte(data)}
}

// numbered is a member that no line makes.
func numbered(name, data string) api.Member {
	return api.Member{Name: name, Time: 1700000000, UID: 1000, GID: 100, Mode: 0o100644, Data: []byte(data)}
}

// complete is the complete archive of members that have one.
func complete(l ...api.Member) []byte {
	b, err := symindex.Complete(l)
	if err != api.OK {
		panic(err)
	}
	return b
}

// stale is an archive of the members whose map is none.
func stale(l ...api.Member) []byte {
	b, err := arwrite.Write(true, []byte("text"), l)
	if err != api.OK {
		panic(err)
	}
	return b
}

// someFiles are files of all kinds, two of which have the same name.
func someFiles() []api.File {
	return []api.File{
		{Name: "f", Data: []byte("text of f")},
		{Name: "f.o", Data: object("f")},
		{Name: "f", Data: []byte("another f")},
		{Name: "gh.o", Data: object("g", "h")},
		{Name: "empty"},
		{Name: "", Data: []byte("the file without a name")},
		{Name: "dir/sub/f", Data: []byte("in a folder")},
		{Name: "before", Data: []byte("named before")},
	}
}

// someArchives are archives of all kinds, and bytes that are none.
func someArchives() [][]byte {
	l := []api.Member{numbered("a.o", string(object("a"))), numbered("b.o", "text of b"), numbered("a.o", "another a.o, of an even length"), numbered(longName, "")}
	return [][]byte{
		nil,
		[]byte(magic),
		complete(l...),
		complete(l[1]),
		stale(l...),
		stale(),
		[]byte("text that is no archive"),
		[]byte(magic + "x"),
		complete(l...)[:100],
	}
}

// chapterForm is a form of lines, as the chapter has it.
type chapterForm struct {
	line string
	op   byte
}

// chapterForms are the lines of the chapter's table.
func chapterForms() []chapterForm {
	return []chapterForm{
		{"r NAME FILE", 'r'},
		{"r NAME FILE WHERE ANCHOR", 'r'},
		{"q NAME FILE", 'q'},
		{"d NAME", 'd'},
		{"m NAME", 'm'},
		{"m NAME WHERE ANCHOR", 'm'},
		{"x NAME", 'x'},
		{"t", 't'},
	}
}

// matches tells whether the words have the form, and which words stand for the names in capital letters.
func (f chapterForm) matches(words []string) (map[string]string, bool) {
	parts := strings.Fields(f.line)
	found := map[string]string{}
	if len(parts) != len(words) {
		return nil, false
	}
	for i, part := range parts {
		switch {
		case part == "WHERE" && words[i] != "before" && words[i] != "after":
			return nil, false
		case part == strings.ToUpper(part):
			found[part] = words[i]
		case part != words[i]:
			return nil, false
		}
	}
	return found, true
}

// commandOf is the command of words, according to the chapter's table.
func commandOf(words []string, files []api.File) (librarian.Command, api.Errno) {
	for _, f := range chapterForms() {
		found, ok := f.matches(words)
		if !ok {
			continue
		}
		c := librarian.Command{Op: f.op, Name: found["NAME"]}
		switch found["WHERE"] {
		case "before":
			c.At = edit.Place{Mode: edit.Before, Anchor: found["ANCHOR"]}
		case "after":
			c.At = edit.Place{Mode: edit.After, Anchor: found["ANCHOR"]}
		}
		name, needed := found["FILE"]
		if !needed {
			return c, api.OK
		}
		for _, file := range files {
			if file.Name == name {
				c.Member = member(found["NAME"], string(file.Data))
				return c, api.OK
			}
		}
		return c, api.ErrFile
	}
	return librarian.Command{}, api.ErrCommand
}

// outcome is what Line returns.
type outcome struct {
	archive []byte
	output  []string
	err     api.Errno
}

func failed(b []byte, err api.Errno) outcome {
	return outcome{b, []string{"error " + strconv.Itoa(int(err))}, err}
}

// expected is the outcome of words, according to the chapter and layer 11.
func expected(b []byte, files []api.File, words []string) outcome {
	c, err := commandOf(words, files)
	if err != api.OK {
		return failed(b, err)
	}
	r, err := librarian.Run(b, c)
	if err != api.OK {
		return failed(b, err)
	}
	switch c.Op {
	case 'x':
		return outcome{r.Archive, []string{fmt.Sprint(len(r.Data))}, api.OK}
	case 't':
		return outcome{r.Archive, r.Names, api.OK}
	}
	return outcome{r.Archive, []string{"ok"}, api.OK}
}

func (x outcome) same(y outcome) bool {
	return bytes.Equal(x.archive, y.archive) && slices.Equal(x.output, y.output) && x.err == y.err
}

func (x outcome) String() string {
	return fmt.Sprintf("%.999q, %.999q, %d", x.archive, x.output, x.err)
}

func lineOf(b []byte, files []api.File, s string) outcome {
	archive, output, err := libscript.Line(b, files, s)
	return outcome{archive, output, err}
}

func expectLine(t *testing.T, b []byte, files []api.File, s string, want outcome) {
	t.Helper()
	if got := lineOf(b, files, s); !got.same(want) {
		t.Errorf("Line(%.999q, %.999q, %.999q) = %v; want %v", b, files, s, got, want)
	}
}

// expectOutput checks a line that succeeds and leaves the bytes as they are.
func expectOutput(t *testing.T, b []byte, s string, output ...string) {
	t.Helper()
	expectLine(t, b, someFiles(), s, outcome{b, output, api.OK})
}

// expectChanged checks a line that leaves the members in an archive.
func expectChanged(t *testing.T, b []byte, s string, l ...api.Member) {
	t.Helper()
	expectLine(t, b, someFiles(), s, outcome{complete(l...), []string{"ok"}, api.OK})
}

// expectError checks a line that fails.
func expectError(t *testing.T, b []byte, s string, err api.Errno) {
	t.Helper()
	expectLine(t, b, someFiles(), s, failed(b, err))
}

func expectRun(t *testing.T, b []byte, files []api.File, s string, want []byte, output ...string) {
	t.Helper()
	archive, got := libscript.Run(b, files, s)
	if !bytes.Equal(archive, want) || !slices.Equal(got, output) {
		t.Errorf("Run(%.999q, %.999q, %.999q) = %.999q, %.999q; want %.999q, %.999q", b, files, s, archive, got, want, output)
	}
}

func expectLines(t *testing.T, s string, want ...string) {
	t.Helper()
	if got := libscript.Lines(s); !slices.Equal(got, want) {
		t.Errorf("Lines(%.999q) = %.999q; want %.999q", s, got, want)
	}
}

// P12.1: a line feed at the end ends the last line, and no other byte ends a line.
func TestLines(t *testing.T) {
	expectLines(t, "")
	expectLines(t, "t", "t")
	expectLines(t, "t\n", "t")
	expectLines(t, "q a.o f\nt", "q a.o f", "t")
	expectLines(t, "q a.o f\nt\n", "q a.o f", "t")
	expectLines(t, "\n", "")
	expectLines(t, "\n\n", "", "")
	expectLines(t, "\nt", "", "t")
	expectLines(t, "t\n\n", "t", "")
	expectLines(t, "a\n\n\nb", "a", "", "", "b")
	expectLines(t, " \n t \n ", " ", " t ", " ")
	expectLines(t, "a\r\nb\rc\v\f\x00\u0085\u2028d", "a\r", "b\rc\v\f\x00\u0085\u2028d")
	expectLines(t, "\xff\n\xc3\x0a\xa4", "\xff", "\xc3", "\xa4")
	expectLines(t, strings.Repeat("x", 100000)+"\n"+strings.Repeat("y", 100000), strings.Repeat("x", 100000), strings.Repeat("y", 100000))
}

// P12.1: every short text, whose lines are read byte by byte.
func TestEveryShortText(t *testing.T) {
	var extend func(s string, lines []string, open bool)
	extend = func(s string, lines []string, open bool) {
		expectLines(t, s, lines...)
		if len(s) == 7 {
			return
		}
		for _, c := range []string{"a", " ", "\r"} {
			if open {
				last := len(lines) - 1
				extend(s+c, append(slices.Clone(lines[:last]), lines[last]+c), true)
			} else {
				extend(s+c, append(slices.Clone(lines), c), true)
			}
		}
		if open {
			extend(s+"\n", lines, false)
		} else {
			extend(s+"\n", append(slices.Clone(lines), ""), false)
		}
	}
	extend("", nil, false)
}

// P12.1: many lines.
func TestManyLines(t *testing.T) {
	var want []string
	for i := range 100000 {
		want = append(want, strconv.Itoa(i))
	}
	expectLines(t, strings.Join(want, "\n"), want...)
	expectLines(t, strings.Join(want, "\n")+"\n", want...)
	expectLines(t, strings.Repeat("\n", 100000), make([]string, 100000)...)
}

// P12.2: archives written out, byte by byte.
func TestWrittenOut(t *testing.T) {
	files := []api.File{{Name: "f", Data: []byte("abc")}, {Name: "f.o", Data: []byte("OBJ1\x00\x00\x00\x01\x01\x00\x00\x00\x08\x00\x00\x00\x00\x01f")}}
	header := func(name, size string) string {
		return fmt.Sprintf("%-16s%-12s%-6s%-6s%-8s%-10s`\n", name, "0", "0", "0", "0", size)
	}
	aPart := header("a.o/", "3") + "abc\n"
	fPart := header("f.o/", "19") + string(files[1].Data) + "\n"
	withA := magic + aPart
	withAF := magic + header("/", "10") + "\x00\x00\x00\x01\x00\x00\x00\x8ef\x00" + aPart + fPart
	withFA := magic + header("/", "10") + "\x00\x00\x00\x01\x00\x00\x00\x4ef\x00" + fPart + aPart
	for _, x := range []struct{ from, line, to, output string }{
		{"", "q a.o f", withA, "ok"},
		{"", "r a.o f", withA, "ok"},
		{magic, "q a.o f", withA, "ok"},
		{withA, "q f.o f.o", withAF, "ok"},
		{withA, "r f.o f.o", withAF, "ok"},
		{withA, "r f.o f.o after a.o", withAF, "ok"},
		{withA, "r f.o f.o before a.o", withFA, "ok"},
		{withAF, "m a.o", withFA, "ok"},
		{withAF, "m f.o before a.o", withFA, "ok"},
		{withFA, "m f.o after a.o", withAF, "ok"},
		{withAF, "d f.o", withA, "ok"},
		{withA, "d a.o", magic, "ok"},
		{withAF, "x a.o", withAF, "3"},
		{withAF, "x f.o", withAF, "19"},
		{withA, "t", withA, "a.o"},
	} {
		expectLine(t, []byte(x.from), files, x.line, outcome{[]byte(x.to), []string{x.output}, api.OK})
	}
	expectLine(t, []byte(withAF), files, "t", outcome{[]byte(withAF), []string{"a.o", "f.o"}, api.OK})
	expectLine(t, nil, files, "t", outcome{})
	expectLine(t, []byte(magic), files, "t", outcome{archive: []byte(magic)})
	expectLine(t, []byte(withAF), files, "d f.x", outcome{[]byte(withAF), []string{"error 10"}, api.ErrMember})
	expectLine(t, []byte(withAF), files, "m f.o before x", outcome{[]byte(withAF), []string{"error 11"}, api.ErrAnchor})
	expectLine(t, []byte(withAF), files, "q a.o x", outcome{[]byte(withAF), []string{"error 15"}, api.ErrFile})
	expectLine(t, []byte(withAF), files, "l", outcome{[]byte(withAF), []string{"error 17"}, api.ErrCommand})
}

// P12.2: each form of a line, on an archive with a name that occurs twice.
func TestForms(t *testing.T) {
	a1, b2, a3, c4 := numbered("a", "a1"), numbered("b", "b2"), numbered("a", "a3"), numbered("c", "c4")
	b := complete(a1, b2, a3, c4)
	newA, newD := member("a", "text of f"), member("d", "text of f")
	expectChanged(t, b, "r a f", newA, b2, a3, c4)
	expectChanged(t, b, "r a f after c", newA, b2, a3, c4)
	expectChanged(t, b, "r d f", a1, b2, a3, c4, newD)
	expectChanged(t, b, "r d f before a", newD, a1, b2, a3, c4)
	expectChanged(t, b, "r d f after a", a1, newD, b2, a3, c4)
	expectChanged(t, b, "r d f after c", a1, b2, a3, c4, newD)
	expectChanged(t, b, "q a f", a1, b2, a3, c4, newA)
	expectChanged(t, b, "d a", b2, a3, c4)
	expectChanged(t, b, "m a", b2, a3, c4, a1)
	expectChanged(t, b, "m a after a", b2, a3, a1, c4)
	expectChanged(t, b, "m c before b", a1, c4, b2, a3)
	expectOutput(t, b, "x a", "2")
	expectOutput(t, b, "t", "a", "b", "a", "c")
	expectError(t, b, "r a f before x", api.ErrAnchor)
	expectError(t, b, "r d f after d", api.ErrAnchor)
	expectError(t, b, "d d", api.ErrMember)
	expectError(t, b, "m d", api.ErrMember)
	expectError(t, b, "m d before x", api.ErrMember)
	expectError(t, b, "m a before x", api.ErrAnchor)
	expectError(t, b, "m b after b", api.ErrAnchor)
	expectError(t, b, "x d", api.ErrMember)
	expectError(t, b, "r a/b f", api.ErrName)
	expectError(t, b, "q a/b f", api.ErrName)
	expectError(t, b, "q "+strings.Repeat("n", 256)+" f", api.ErrName)
	expectError(t, nil, "d a", api.ErrMember)
	expectError(t, nil, "m a", api.ErrMember)
	expectError(t, nil, "x a", api.ErrMember)
	expectError(t, nil, "r a f before a", api.ErrAnchor)
}

// P12.2: lines that have none of the forms, whatever the archive is.
func TestNoForm(t *testing.T) {
	lines := []string{
		"", " ", "  ", "u", "error", "ok", "a.o", "f", "before", "NAME", "17", "#", "-t", "tt", "T", "\x00", "\xff", "é",
		"t ", " t", "\tt", "t\t", "t\r", "t a.o", "t  ", "t before a.o",
		"d", "D a.o", "d a.o ", " d a.o", "d  a.o", "d a.o b.o", "d\ta.o", "da.o", "d a.o before b.o", "d a.o before",
		"x", "X a.o", "x a.o ", "x a.o b.o", "x  a.o", "x a.o f", "x a.o after b.o",
		"m", "M a.o", "m a.o ", "m a.o b.o", "m a.o before", "m a.o after", "m a.o before b.o ", "m a.o  before b.o", "m a.o before  b.o", "m a.o before b.o after b.o",
		"m a.o Before b.o", "m a.o AFTER b.o", "m a.o befor b.o", "m a.o after\t b.o", "m a.o end b.o", "m a.o  b.o", "m a.o behind b.o", "m a.o 1 b.o", "m before a.o", "m before b.o a.o", "m a.o end",
		"r", "R a.o f", "r a.o", "r a.o f ", "r a.o f b.o", "r a.o f before", "r a.o f after", "r a.o before b.o", "r a.o  f b.o", "r a.o f before b.o ", "r a.o f  before b.o", "r a.o f before b.o f",
		"r a.o f Before b.o", "r a.o f beforehand b.o", "r a.o f afte b.o", "r a.o f  b.o", "r a.o before b.o f", "r before b.o a.o f",
		"q", "Q a.o f", "q a.o", "q a.o f ", "q  a.o f", "q a.o f before", "q a.o f before b.o", "q a.o f after b.o", "q a.o\tf", "q a.o before b.o",
		"r a.o missing behind b.o", "q a.o missing before b.o", "r a/b missing x", "m missing x y",
	}
	for _, b := range someArchives() {
		for _, s := range lines {
			expectError(t, b, s, api.ErrCommand)
			expectLine(t, b, nil, s, failed(b, api.ErrCommand))
		}
	}
}

// P12.2: a first word of any byte that is none of the six, alone and with operands.
func TestEveryFirstByte(t *testing.T) {
	b := complete(numbered("a.o", "text"), numbered("f", "text"))
	for c := range 256 {
		word := string([]byte{byte(c)})
		if word == "\n" || strings.Contains("rqdmxt", word) {
			continue
		}
		for _, operands := range []string{"", " a.o", " a.o f", " a.o before f", " a.o f before f"} {
			expectError(t, b, word+operands, api.ErrCommand)
			expectError(t, b, "t"+word+operands, api.ErrCommand)
		}
	}
}

// P12.2: all lines of up to six words.
func TestEveryLine(t *testing.T) {
	b := complete(numbered("f", string(object("a"))), numbered("b", "text of b"))
	vocabulary := []string{"r", "q", "d", "m", "x", "t", "before", "after", "f", "b", ""}
	files := someFiles()
	var extend func(words []string)
	extend = func(words []string) {
		if len(words) > 0 {
			expectLine(t, b, files, strings.Join(words, " "), expected(b, files, words))
		}
		if len(words) == 6 {
			return
		}
		for _, word := range vocabulary {
			// More words are of interest behind those only that begin a form.
			if len(words) < 3 || len(words) < 6 && strings.Contains("rqm", words[0]) && words[0] != "" {
				extend(append(slices.Clone(words), word))
			}
		}
	}
	extend(nil)
}

// P12.2: each form with all names, files and anchors on archives of all kinds, and on bytes that are none.
func TestEveryForm(t *testing.T) {
	names := map[string][]string{
		"NAME":   {"a.o", "b.o", longName, "new", "a/b", "", "t"},
		"FILE":   {"f", "f.o", "gh.o", "empty", "", "missing", "dir/sub/f", "before"},
		"WHERE":  {"before", "after", "behind", ""},
		"ANCHOR": {"a.o", "b.o", longName, "new", "missing", "", "before"},
	}
	var fill func(b []byte, files []api.File, words, rest []string)
	fill = func(b []byte, files []api.File, words, rest []string) {
		if len(rest) == 0 {
			expectLine(t, b, files, strings.Join(words, " "), expected(b, files, words))
			return
		}
		choices, open := names[rest[0]]
		if !open {
			choices = rest[:1]
		}
		for _, word := range choices {
			fill(b, files, append(slices.Clone(words), word), rest[1:])
		}
	}
	for _, b := range someArchives() {
		for _, f := range chapterForms() {
			fill(b, someFiles(), nil, strings.Fields(f.line))
			fill(b, nil, nil, strings.Fields(f.line))
		}
	}
}

// P12.2: words may be empty, since every space separates two of them.
func TestEmptyWords(t *testing.T) {
	b := complete(numbered("a.o", "text"))
	unnamed := "the file without a name"
	expectChanged(t, nil, "q a.o ", member("a.o", unnamed))
	expectChanged(t, b, "r a.o ", member("a.o", unnamed))
	expectChanged(t, b, "r b.o  before a.o", member("b.o", unnamed), numbered("a.o", "text"))
	expectError(t, b, "q  f", api.ErrName)
	expectError(t, b, "r  f before a.o", api.ErrName)
	expectError(t, b, "r b.o f before ", api.ErrAnchor)
	expectError(t, b, "m a.o after ", api.ErrAnchor)
	expectError(t, b, "m  after a.o", api.ErrMember)
	expectError(t, b, "d ", api.ErrMember)
	expectError(t, b, "m ", api.ErrMember)
	expectError(t, b, "x ", api.ErrMember)
	expectLine(t, b, []api.File{{Name: "f"}}, "q a.o ", failed(b, api.ErrFile))
}

// P12.2: the first of several errors is that of the line, then that of the file, then that of layer 11.
func TestOrderOfErrors(t *testing.T) {
	b := complete(numbered("a.o", "text"))
	malformed := map[string]api.Errno{
		"!":                                           api.ErrShort,
		"text that is no archive":                     api.ErrMagic,
		magic + "x":                                   api.ErrShort,
		string(b) + "x":                               api.ErrShort,
		string(b[:66]) + "x\ntext":                    api.ErrMark,
		string(b[:8]) + "\n" + string(b[9:]):          api.ErrName,
		string(b[:24]) + "x" + string(b[25:]):         api.ErrField,
		string(b) + string(stale()[8:]):               api.ErrMap,
		string(complete(member("a", "x"))[:69]):       api.ErrShort,
		string(complete(member("a", "x"))[:69]) + "x": api.ErrPad,
	}
	for text, err := range malformed {
		x := []byte(text)
		for _, s := range []string{"r a.o f", "r a.o f before a.o", "r a/b f after x", "q a.o f", "q a/b f", "d a.o", "d x", "m a.o", "m x", "m x before y", "x a.o", "x x", "t"} {
			expectError(t, x, s, err)
		}
		for _, s := range []string{"r a.o missing", "r a.o missing before a.o", "r a/b missing after x", "q a.o missing", "q a/b missing"} {
			expectError(t, x, s, api.ErrFile)
			expectError(t, b, s, api.ErrFile)
			expectError(t, nil, s, api.ErrFile)
		}
		for _, s := range []string{"r a.o missing behind a.o", "r a.o missing before", "q a.o missing before a.o", "d x y", "m x y", "t x", ""} {
			expectError(t, x, s, api.ErrCommand)
			expectError(t, b, s, api.ErrCommand)
			expectError(t, nil, s, api.ErrCommand)
		}
	}
	expectError(t, b, "r a/b f before x", api.ErrAnchor)
	expectError(t, b, "m x before y", api.ErrMember)
}

// P12.2: the data is that of the first file whose name is the FILE, byte by byte.
func TestFiles(t *testing.T) {
	files := []api.File{{Name: "f", Data: []byte("first")}, {Name: "f", Data: []byte("second")}, {Name: "F", Data: []byte("large")}, {Name: "g.o"}, {Name: "g.o", Data: []byte("data")}}
	names := []string{"f", "F", "g.o"}
	for c := range 256 {
		if c != ' ' && c != '\n' {
			name := string([]byte{'n', byte(c)})
			names = append(names, name)
			files = append(files, api.File{Name: name, Data: []byte{byte(c)}}, api.File{Name: name, Data: []byte("behind")})
		}
	}
	names = append(names, strings.Repeat("long/", 10000))
	files = append(files, api.File{Name: strings.Repeat("long/", 10000), Data: bytes.Repeat([]byte("data\n"), 100000)})
	for _, name := range names {
		i := slices.IndexFunc(files, func(x api.File) bool { return x.Name == name })
		want := outcome{complete(member("new", string(files[i].Data))), []string{"ok"}, api.OK}
		expectLine(t, nil, files, "q new "+name, want)
		expectLine(t, nil, files, "r new "+name, want)
		expectLine(t, complete(numbered("new", "old")), files, "r new "+name+" after new", want)
	}
	for _, name := range []string{"", "n", "f.", "g", ".o", "g.o\x00", "long/", "ff", "*", "g.?"} {
		for _, line := range []string{"q new ", "r new ", "r f "} {
			expectLine(t, nil, files, line+name, failed(nil, api.ErrFile))
			expectLine(t, nil, nil, line+name, failed(nil, api.ErrFile))
		}
	}
}

// P12.2: a file is needed by r and q only, and no name of a member is one of a file.
func TestWithoutFiles(t *testing.T) {
	a, b := numbered("a.o", "text"), numbered("b.o", "other")
	x := complete(a, b)
	for _, files := range [][]api.File{nil, {{Name: "a.o"}}, {{Name: "a.o", Data: []byte("new")}, {Name: "b.o"}}} {
		expectLine(t, x, files, "d a.o", outcome{complete(b), []string{"ok"}, api.OK})
		expectLine(t, x, files, "m a.o", outcome{complete(b, a), []string{"ok"}, api.OK})
		expectLine(t, x, files, "m b.o before a.o", outcome{complete(b, a), []string{"ok"}, api.OK})
		expectLine(t, x, files, "x a.o", outcome{x, []string{"4"}, api.OK})
		expectLine(t, x, files, "t", outcome{x, []string{"a.o", "b.o"}, api.OK})
		expectLine(t, x, files, "r a.o c.o", failed(x, api.ErrFile))
	}
}

// P12.2: members of lines have the number 0 in each field, and keep their data and their name as they are.
func TestMembersOfLines(t *testing.T) {
	every := make([]byte, 256)
	for c := range every {
		every[c] = byte(c)
	}
	for _, data := range [][]byte{nil, []byte("\n"), every, complete(numbered("a", "b")), object("f", "g"), bytes.Repeat(every, 5000)} {
		files := []api.File{{Name: "data", Data: data}}
		for _, name := range []string{"n", "fifteen-bytes.o", "sixteen--bytes.o", longName, strings.Repeat("n", 255), "r", "before", "\xff`\r\t.*", "\u00a0", "\u3000x"} {
			m := member(name, string(data))
			old := numbered(name, "old")
			other := numbered("other", string(object("x")))
			expectLine(t, nil, files, "q "+name+" data", outcome{complete(m), []string{"ok"}, api.OK})
			expectLine(t, complete(old, other), files, "r "+name+" data", outcome{complete(m, other), []string{"ok"}, api.OK})
			expectLine(t, complete(other), files, "r "+name+" data before other", outcome{complete(m, other), []string{"ok"}, api.OK})
			expectLine(t, complete(m, other), files, "x "+name, outcome{complete(m, other), []string{strconv.Itoa(len(data))}, api.OK})
			expectLine(t, complete(m, other), files, "t", outcome{complete(m, other), []string{name, "other"}, api.OK})
			expectLine(t, complete(m, other), files, "d "+name, outcome{complete(other), []string{"ok"}, api.OK})
			expectLine(t, complete(m, other), files, "m "+name, outcome{complete(other, m), []string{"ok"}, api.OK})
		}
	}
}

// P12.2: the output of x is the number of bytes in decimal.
func TestSizes(t *testing.T) {
	for size, want := range map[int]string{0: "0", 1: "1", 7: "7", 8: "8", 9: "9", 10: "10", 64: "64", 99: "99", 100: "100", 255: "255", 1000: "1000", 65536: "65536", 1000000: "1000000"} {
		b := complete(numbered("other", "text"), numbered("a.o", strings.Repeat("x", size)), numbered("a.o", "second"))
		expectOutput(t, b, "x a.o", want)
	}
}

// P12.2: the output of t is one line for each member, whatever its name is.
func TestNames(t *testing.T) {
	expectOutput(t, nil, "t")
	expectOutput(t, []byte(magic), "t")
	names := []string{"b", "a", "b", longName, " ", "two words", "trailing ", "ok", "error 17", "\xff\t\r", strings.Repeat("n", 255), "B"}
	var l []api.Member
	for i, name := range names {
		l = append(l, numbered(name, strings.Repeat("x", i)))
		expectOutput(t, complete(l...), "t", names[:i+1]...)
	}
	l, names = nil, nil
	for i := range 10000 {
		names = append(names, strconv.Itoa(i))
		l = append(l, numbered(names[i], ""))
	}
	expectOutput(t, complete(l...), "t", names...)
}

// P12.2: lines that change nothing leave the bytes as they are, also if their map is stale; a change makes the archive complete.
func TestStaleArchives(t *testing.T) {
	a, b := numbered("a.o", string(object("a"))), numbered("b.o", "text")
	x := stale(a, b)
	expectOutput(t, x, "t", "a.o", "b.o")
	expectOutput(t, x, "x b.o", "4")
	expectError(t, x, "d c.o", api.ErrMember)
	expectError(t, x, "m a.o before c.o", api.ErrAnchor)
	expectChanged(t, x, "m b.o", a, b)
	expectChanged(t, x, "d b.o", a)
	expectChanged(t, x, "q gh.o gh.o", a, b, member("gh.o", string(object("g", "h"))))
	archive, _, _ := libscript.Line(x, nil, "m b.o")
	if v, offset, err := consist.Open(archive); err != api.OK || !slices.Equal(v.Defs[0], []string{"a"}) {
		t.Errorf("Open(%.999q) has the definitions %q, and the error %d at %d", archive, v.Defs, err, offset)
	}
}

// P12.3: scripts, and what they print.
func TestRun(t *testing.T) {
	files := []api.File{{Name: "f", Data: []byte("abc")}, {Name: "g", Data: []byte("defgh")}}
	a, b := member("a.o", "abc"), member("b.o", "defgh")
	expectRun(t, nil, files, "q a.o f\nt", complete(a), "ok", "a.o") // the chapter's example
	expectRun(t, nil, files, "q a.o f\nt\n", complete(a), "ok", "a.o")
	expectRun(t, []byte(magic), files, "q a.o f\nr b.o g before a.o\nt\nx b.o\nm b.o\nt", complete(a, b), "ok", "ok", "b.o", "a.o", "5", "ok", "a.o", "b.o")
	expectRun(t, complete(a, b), files, "d a.o\nt\nd b.o\nt\n", []byte(magic), "ok", "b.o", "ok")
	expectRun(t, complete(a, b), nil, "t\nt", complete(a, b), "a.o", "b.o", "a.o", "b.o")
	expectRun(t, nil, files, "t\nt\nt\n", nil)
}

// P12.3: without lines, all bytes stay as they are and nothing is printed.
func TestRunEmptyScript(t *testing.T) {
	for _, b := range someArchives() {
		expectRun(t, b, someFiles(), "", b)
		expectRun(t, b, nil, "", b)
		expectRun(t, b, someFiles(), "\n", b, "error 17")
		expectRun(t, b, someFiles(), "\n\n \n", b, "error 17", "error 17", "error 17")
	}
}

// P12.3: an error prints its number, leaves the archive as it is and does not end the script.
func TestRunErrors(t *testing.T) {
	files := []api.File{{Name: "f", Data: []byte("abc")}}
	a, b := member("a.o", "abc"), member("b.o", "abc")
	expectRun(t, nil, files, "d a.o\nq a.o f\n\nq b.o missing\nq b.o f\nm a.o before c.o\nq a/b f\nz\nt\nd x\n", complete(a, b),
		"error 10", "ok", "error 17", "error 15", "ok", "error 11", "error 6", "error 17", "a.o", "b.o", "error 10")
	expectRun(t, []byte("text that is no archive"), files, "t\nq a.o f\nq a.o x\nt x\nd a.o", []byte("text that is no archive"), "error 1", "error 1", "error 15", "error 17", "error 1")
	expectRun(t, complete(a), files, "q a.o f\r\nt\r\n", complete(a), "error 15", "error 17")
}

// P12.3: every script of up to three lines does what its lines do one after the other.
func TestEveryScript(t *testing.T) {
	lines := []string{
		"r a.o f.o", "r b.o f before a.o", "r b.o gh.o after x", "q a.o f", "q b.o gh.o", "q c.o missing", "q a/b f",
		"d a.o", "d b.o", "m a.o", "m b.o before a.o", "m c.o", "x a.o", "t", "", "t t",
	}
	files := someFiles()
	var extend func(b []byte, script []string, archive []byte, output []string)
	extend = func(b []byte, script []string, archive []byte, output []string) {
		text := strings.Join(script, "\n")
		// Without a line feed at its end, a script that ends with an empty line has one line less.
		if len(script) > 0 {
			expectRun(t, b, files, text+"\n", archive, output...)
		}
		if len(script) == 0 || script[len(script)-1] != "" {
			expectRun(t, b, files, text, archive, output...)
		}
		if len(script) == 3 {
			return
		}
		for _, line := range lines {
			next := expected(archive, files, strings.Split(line, " "))
			extend(b, append(slices.Clone(script), line), next.archive, append(slices.Clone(output), next.output...))
		}
	}
	for _, b := range someArchives() {
		extend(b, nil, b, nil)
	}
}

// P12.3: many lines, on an archive with many members.
func TestLongScript(t *testing.T) {
	var files []api.File
	var l []api.Member
	var script strings.Builder
	var output []string
	for i := range 300 {
		name := "m" + strconv.Itoa(i)
		if i%3 == 0 {
			name += "-with-a-long-name.o"
		}
		data := object("f"+strconv.Itoa(i), "g")
		files = append(files, api.File{Name: "file" + strconv.Itoa(i), Data: data})
		l = append(l, member(name, string(data)))
		script.WriteString("q " + name + " file" + strconv.Itoa(i) + "\nd missing\nx " + name + "\n")
		output = append(output, "ok", "error 10", strconv.Itoa(len(data)))
	}
	script.WriteString("t")
	expectRun(t, nil, files, script.String(), complete(l...), append(output, edit.List(l)...)...)
}

// arguments are those of the calls, with unused capacity behind all slices.
type arguments struct {
	b            []byte
	files        []api.File
	line, script string
}

func spare(b []byte) []byte {
	return append(bytes.Clone(b), "unused"...)[:len(b)]
}

func newArguments(b []byte, line, script string) arguments {
	x := arguments{b: spare(b), line: line, script: script}
	for _, f := range someFiles() {
		x.files = append(x.files, api.File{Name: f.Name, Data: spare(f.Data)})
	}
	x.files = append(x.files, api.File{Name: "unused", Data: []byte("unused")})[:len(x.files)]
	return x
}

// describe tells all of the arguments, with what lies behind their slices.
func (x arguments) describe() string {
	text := strconv.Quote(string(x.b[:cap(x.b)]))
	for _, f := range x.files[:cap(x.files)] {
		text += fmt.Sprintf("\n%q %q", f.Name, f.Data[:cap(f.Data)])
	}
	return text
}

// overwrite changes the arguments, and what lies behind them.
func (x arguments) overwrite() {
	fill(x.b)
	for _, f := range x.files {
		fill(f.Data)
	}
	clear(x.files[:cap(x.files)])
}

// fill overwrites the bytes, and those behind them that belong to the same memory.
func fill(b []byte) {
	b = b[:cap(b)]
	copy(b, bytes.Repeat([]byte{'#'}, len(b)))
}

// results are those of all functions.
type results struct {
	line  outcome
	last  []byte
	all   []string
	lines []string
}

func runWith(x arguments) results {
	r := results{line: lineOf(x.b, x.files, x.line), lines: libscript.Lines(x.script)}
	r.last, r.all = libscript.Run(x.b, x.files, x.script)
	return r
}

func (r results) same(x results) bool {
	return r.line.same(x.line) && bytes.Equal(r.last, x.last) && slices.Equal(r.all, x.all) && slices.Equal(r.lines, x.lines)
}

func (r results) String() string {
	return fmt.Sprintf("%v; %.999q, %.999q; %.999q", r.line, r.last, r.all, r.lines)
}

func (r results) overwrite() {
	fill(r.line.archive)
	clear(r.line.output[:cap(r.line.output)])
	fill(r.last)
	clear(r.all[:cap(r.all)])
	clear(r.lines[:cap(r.lines)])
}

// eachArguments visits the arguments of calls that succeed and that fail, in all ways.
func eachArguments(visit func(made func() arguments)) {
	for _, b := range someArchives() {
		for _, line := range []string{"", "r a.o f", "r n.o f.o before a.o", "r n.o f after x", "q n.o gh.o", "q a/b f", "q n.o missing", "q n.o empty", "d a.o", "d x", "m a.o", "m a.o after b.o", "m x", "x a.o", "x x", "t", "z"} {
			for _, script := range []string{line, "t\nq c.o f\n" + line + "\n", "q c.o f.o\nt\n" + line} {
				visit(func() arguments { return newArguments(b, line, script) })
			}
		}
	}
}

// P12.4: neither the bytes nor the files change, nor what lies behind them.
func TestArgumentsUnchanged(t *testing.T) {
	eachArguments(func(made func() arguments) {
		x := made()
		want := x.describe()
		runWith(x)
		if got := x.describe(); got != want {
			t.Errorf("the script %q changed the arguments from %.999s to %.999s", x.script, want, got)
		}
	})
}

// P12.4: a result changes neither with the arguments nor with another result.
func TestResultsAreNew(t *testing.T) {
	eachArguments(func(made func() arguments) {
		want := runWith(made())
		x := made()
		unchanged := x.describe()
		got := runWith(x)
		runWith(x).overwrite()
		if after := x.describe(); after != unchanged {
			t.Errorf("after changes of results of %q, the arguments are %.999s; want %.999s", x.script, after, unchanged)
		}
		x.overwrite()
		if !got.same(want) {
			t.Errorf("after changes of the arguments and of other results of %q, the results are %v; want %v", x.script, got, want)
		}
	})
}
