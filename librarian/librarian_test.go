package librarian_test

import (
	"bytes"
	"fmt"
	"math"
	"slices"
	"strconv"
	"strings"
	"testing"

	"arlink/api"
	"arlink/armap"
	"arlink/arparse"
	"arlink/arwrite"
	"arlink/consist"
	"arlink/edit"
	"arlink/librarian"
	"arlink/objsym"
	"arlink/symindex"
)

const (
	magic    = "!<arch>\n"
	longName = "a-very-long-name.o"
)

var atEnd = edit.Place{Mode: edit.End}

func before(anchor string) edit.Place { return edit.Place{Mode: edit.Before, Anchor: anchor} }
func after(anchor string) edit.Place  { return edit.Place{Mode: edit.After, Anchor: anchor} }

func replace(m api.Member, at edit.Place) librarian.Command {
	return librarian.Command{Op: librarian.OpReplace, Member: m, At: at}
}

func appending(m api.Member) librarian.Command {
	return librarian.Command{Op: librarian.OpAppend, Member: m}
}

func deleting(name string) librarian.Command {
	return librarian.Command{Op: librarian.OpDelete, Name: name}
}

func move(name string, at edit.Place) librarian.Command {
	return librarian.Command{Op: librarian.OpMove, Name: name, At: at}
}

func extract(name string) librarian.Command {
	return librarian.Command{Op: librarian.OpExtract, Name: name}
}

func list() librarian.Command { return librarian.Command{Op: librarian.OpList} }

func member(name, data string) api.Member {
	return api.Member{Name: name, Time: 1700000000, UID: 1000, GID: 100, Mode: 0o100644, Data: []byte(data)}
}

// objectOf is the encoding of an object with the symbols.
func objectOf(syms ...api.Sym) string {
	b, err := objsym.Encode(api.Object{Syms: syms, Body: []byte("code")})
	if err != api.OK {
		panic(err)
	}
	return string(b)
}

// defining is a member that defines the names, strongly and weakly in turns, between symbols that are no definitions.
func defining(name string, defs ...string) api.Member {
	syms := []api.Sym{{Name: "undef", Bind: api.Undef}, {Name: "common", Bind: api.Common, Size: 8, Align: 4}}
	for i, def := range defs {
		syms = append(syms, api.Sym{Name: def, Bind: api.Strong + i%2})
	}
	return member(name, objectOf(append(syms, api.Sym{Name: "weakundef", Bind: api.WeakUndef})...))
}

// kinds are members with and without definitions, two of which have the same name.
func kinds() []api.Member {
	return []api.Member{
		defining("f.o", "f"),
		defining(longName, "g", "f", "h"),
		member("a.txt", "abc"),
		member("f.o", "another f.o, with an even number of bytes"),
		member("empty ", ""),
	}
}

// complete is the complete archive of members that have one.
func complete(l ...api.Member) []byte {
	b, err := symindex.Complete(l)
	if err != api.OK {
		panic(err)
	}
	return b
}

// write is the archive of members that fit, with any map.
func write(hasMap bool, m string, l ...api.Member) []byte {
	b, err := arwrite.Write(hasMap, []byte(m), l)
	if err != api.OK {
		panic(err)
	}
	return b
}

// eachList visits all lists of up to so many of the members.
func eachList(length int, all []api.Member, visit func(l []api.Member)) {
	var extend func(l []api.Member)
	extend = func(l []api.Member) {
		visit(l)
		if len(l) == length {
			return
		}
		for _, m := range all {
			extend(append(slices.Clone(l), m))
		}
	}
	extend(nil)
}

func sameMember(a, b api.Member) bool {
	return a.Name == b.Name && a.Time == b.Time && a.UID == b.UID && a.GID == b.GID && a.Mode == b.Mode && bytes.Equal(a.Data, b.Data)
}

func sameResult(a, b librarian.Result) bool {
	return bytes.Equal(a.Archive, b.Archive) && slices.Equal(a.Names, b.Names) && bytes.Equal(a.Data, b.Data)
}

// brief tells a value that may be long.
func brief(value any) string {
	return fmt.Sprintf("%.999s", fmt.Sprintf("%+v", value))
}

func describe(r librarian.Result) string {
	return fmt.Sprintf("{%.999q %.999q %.999q}", r.Archive, r.Names, r.Data)
}

func expectMembers(t *testing.T, b []byte, want []api.Member, wantErr api.Errno) {
	t.Helper()
	l, err := librarian.Members(b)
	if !slices.EqualFunc(l, want, sameMember) || err != wantErr {
		t.Errorf("Members(%.999q) = %s, %d; want %s, %d", b, brief(l), err, brief(want), wantErr)
	}
}

func expectRun(t *testing.T, b []byte, c librarian.Command, want librarian.Result, wantErr api.Errno) {
	t.Helper()
	r, err := librarian.Run(b, c)
	if !sameResult(r, want) || err != wantErr {
		t.Errorf("Run(%.999q, %s) = %s, %d; want %s, %d", b, brief(c), describe(r), err, describe(want), wantErr)
	}
}

// expectChanged checks a command that leaves the members in an archive.
func expectChanged(t *testing.T, b []byte, c librarian.Command, l ...api.Member) {
	t.Helper()
	expectRun(t, b, c, librarian.Result{Archive: complete(l...)}, api.OK)
}

// expectError checks a command that fails.
func expectError(t *testing.T, b []byte, c librarian.Command, want api.Errno) {
	t.Helper()
	expectRun(t, b, c, librarian.Result{Archive: b}, want)
}

func expectRunAll(t *testing.T, b []byte, l []librarian.Command, want []byte, wantCount int, wantErr api.Errno) {
	t.Helper()
	archive, count, err := librarian.RunAll(b, l)
	if !bytes.Equal(archive, want) || count != wantCount || err != wantErr {
		t.Errorf("RunAll(%.999q, %s) = %.999q, %d, %d; want %.999q, %d, %d", b, brief(l), archive, count, err, want, wantCount, wantErr)
	}
}

// definedNames are the definitions of a member, in order.
func definedNames(m api.Member) []string {
	var names []string
	o, _ := objsym.Decode(m.Data)
	for _, s := range o.Syms {
		if s.Bind == api.Strong || s.Bind == api.Weak {
			names = append(names, s.Name)
		}
	}
	return names
}

// expectConsistent checks that an archive has the members, and a map that lists exactly their definitions with the offsets of their headers, or none if there are none.
func expectConsistent(t *testing.T, b []byte, l []api.Member) {
	t.Helper()
	a, _, err := arparse.Parse(b)
	if !slices.EqualFunc(a.Members, l, sameMember) || err != api.OK {
		t.Errorf("%.999q has the members %s, %d; want %s", b, brief(a.Members), err, brief(l))
		return
	}
	var index []api.Entry
	for i, m := range a.Members {
		for _, name := range definedNames(m) {
			index = append(index, api.Entry{Name: name, Offset: a.Offsets[i]})
		}
	}
	if listed, _ := armap.Decode(a.Map); !slices.Equal(listed, index) || a.HasMap != (len(index) > 0) {
		t.Errorf("%.999q lists %s; want %s", b, brief(listed), brief(index))
	}
	if _, offset, err := consist.Open(b); err != api.OK {
		t.Errorf("Open(%.999q) has the error %d at %d", b, err, offset)
	}
}

// malformed lists bytes that are no archives, with the error of each.
func malformed() map[string]api.Errno {
	valid := string(complete(member("a.txt", "abc")))
	object := string(complete(defining("f.o", "f")))
	table := string(complete(member(longName, "abc")))
	return map[string]api.Errno{
		"!":                               api.ErrShort,
		"!<arch>":                         api.ErrShort,
		"!<arch>x":                        api.ErrMagic,
		"text that is no archive":         api.ErrMagic,
		magic + "x":                       api.ErrShort,
		valid + "x":                       api.ErrShort,
		valid[:len(valid)-1]:              api.ErrShort,
		valid[:len(valid)-1] + "x":        api.ErrPad,
		valid[:66] + "x\n" + valid[68:]:   api.ErrMark,
		valid[:8] + "\n" + valid[9:]:      api.ErrName,
		valid[:8] + "a" + valid[8:67]:     api.ErrMark,
		valid[:24] + "x" + valid[25:]:     api.ErrField,
		valid + table[8:]:                 api.ErrTable,
		object + object[8:]:               api.ErrMap,
		valid[:8] + "/0   " + valid[13:]:  api.ErrName,
		valid[:8] + "a/b/ " + valid[13:]:  api.ErrName,
		valid[:8] + "a.txt " + valid[14:]: api.ErrName,
	}
}

// P11.1: no bytes at all have no members, and are no error.
func TestMembersOfNoBytes(t *testing.T) {
	expectMembers(t, nil, nil, api.OK)
	expectMembers(t, []byte{}, nil, api.OK)
	expectMembers(t, make([]byte, 0, 100), nil, api.OK)
	expectMembers(t, []byte(magic), nil, api.OK)
}

// P11.1: the members are those of the archive, whatever its map is.
func TestMembers(t *testing.T) {
	eachList(3, kinds(), func(l []api.Member) {
		expectMembers(t, complete(l...), l, api.OK)
		expectMembers(t, write(false, "", l...), l, api.OK)
		expectMembers(t, write(true, "\x00\x00\x00\x00", l...), l, api.OK)
		expectMembers(t, write(true, "text", l...), l, api.OK)
	})
}

// P11.1, P11.2: bytes that are no archive have the error of layer 4, also if the command would change nothing or replace everything.
func TestMalformedArchives(t *testing.T) {
	for text, want := range malformed() {
		b := []byte(text)
		expectMembers(t, b, nil, want)
		if l, _ := librarian.Members(b); l != nil {
			t.Errorf("Members(%q) is %s", text, brief(l))
		}
		for _, c := range []librarian.Command{replace(member("a.txt", "new"), atEnd), appending(member("new.txt", "new")), deleting("a.txt"), move("a.txt", atEnd), extract("a.txt"), list()} {
			expectError(t, b, c, want)
		}
	}
}

// P11.1, P11.2: every prefix of an archive, and every change of a byte of it.
func TestEveryChange(t *testing.T) {
	valid := complete(defining("f.o", "f"), member(longName, "abc"))
	expectAsParsed := func(b []byte) {
		t.Helper()
		a, _, err := arparse.Parse(b)
		expectMembers(t, b, a.Members, err)
		if err != api.OK {
			expectError(t, b, list(), err)
			expectError(t, b, appending(member("a", "b")), err)
			return
		}
		expectRun(t, b, list(), librarian.Result{Archive: b, Names: edit.List(a.Members)}, api.OK)
		expectChanged(t, b, appending(member("a", "b")), append(a.Members, member("a", "b"))...)
	}
	for length := 1; length <= len(valid); length++ {
		expectAsParsed(valid[:length])
	}
	for i := range valid {
		for _, c := range []byte{0, '\n', ' ', '/', '0', '7', 'x', '`', valid[i] + 1, valid[i] ^ 0x80} {
			b := bytes.Clone(valid)
			b[i] = c
			expectAsParsed(b)
		}
	}
}

// P11.2: archives written out, byte by byte.
func TestWrittenOut(t *testing.T) {
	a := api.Member{Name: "a.txt", Time: 1, UID: 2, GID: 3, Mode: 0o644, Data: []byte("abc")}
	f := api.Member{Name: "f.o", Data: []byte("OBJ1\x00\x00\x00\x01\x01\x00\x00\x00\x08\x00\x00\x00\x00\x01f")}
	g := api.Member{Name: longName, Data: []byte("text")}
	aPart := "a.txt/          1           2     3     644     3         `\nabc\n"
	fPart := "f.o/            0           0     0     0       19        `\n" + string(f.Data) + "\n"
	mapHeader := "/               0           0     0     0       10        `\n\x00\x00\x00\x01\x00\x00\x00"
	withA := magic + aPart
	withAF := magic + mapHeader + "\x8ef\x00" + aPart + fPart
	withFA := magic + mapHeader + "\x4ef\x00" + fPart + aPart
	withAG := magic + "//                                              20        `\na-very-long-name.o/\n" +
		aPart + "/0              0           0     0     0       4         `\ntext"
	for _, x := range []struct {
		from    string
		command librarian.Command
		to      string
	}{
		{"", appending(a), withA}, // the chapter's example
		{magic, appending(a), withA},
		{"", replace(a, atEnd), withA},
		{withA, appending(f), withAF},
		{withA, replace(f, after("a.txt")), withAF},
		{withA, replace(f, before("a.txt")), withFA},
		{withAF, move("a.txt", atEnd), withFA},
		{withFA, move("f.o", after("a.txt")), withAF},
		{withAF, deleting("f.o"), withA},
		{withA, deleting("a.txt"), magic},
		{withA, replace(g, atEnd), withAG},
		{withAG, deleting(longName), withA},
		{withAF, replace(api.Member{Name: "f.o"}, atEnd), withA + "f.o/            0           0     0     0       0         `\n"},
	} {
		expectRun(t, []byte(x.from), x.command, librarian.Result{Archive: []byte(x.to)}, api.OK)
	}
	expectRun(t, []byte(withAF), extract("a.txt"), librarian.Result{Archive: []byte(withAF), Data: []byte("abc")}, api.OK)
	expectRun(t, []byte(withAF), list(), librarian.Result{Archive: []byte(withAF), Names: []string{"a.txt", "f.o"}}, api.OK)
	expectRun(t, nil, list(), librarian.Result{}, api.OK)
	expectError(t, nil, extract("a.txt"), api.ErrMember)
	expectError(t, nil, deleting("a.txt"), api.ErrMember)
	expectError(t, nil, replace(a, after("a.txt")), api.ErrAnchor)
}

// P11.2: the members after commands, by their names and data.
func TestCommands(t *testing.T) {
	m := func(text string) api.Member { return member(text[:1], text) }
	a1, b2, a3, c4, a9, d9 := m("a1"), m("b2"), m("a3"), m("c4"), m("a9"), m("d9")
	b := complete(a1, b2, a3, c4)
	expectChanged(t, b, replace(a9, atEnd), a9, b2, a3, c4)
	expectChanged(t, b, replace(a9, before("c")), a9, b2, a3, c4)
	expectChanged(t, b, replace(d9, atEnd), a1, b2, a3, c4, d9)
	expectChanged(t, b, replace(d9, before("a")), d9, a1, b2, a3, c4)
	expectChanged(t, b, replace(d9, after("a")), a1, d9, b2, a3, c4)
	expectChanged(t, b, appending(a9), a1, b2, a3, c4, a9)
	expectChanged(t, b, deleting("a"), b2, a3, c4)
	expectChanged(t, b, move("a", atEnd), b2, a3, c4, a1)
	expectChanged(t, b, move("a", after("a")), b2, a3, a1, c4)
	expectChanged(t, b, move("c", before("b")), a1, c4, b2, a3)
	expectRun(t, b, extract("a"), librarian.Result{Archive: b, Data: []byte("a1")}, api.OK)
	expectRun(t, b, list(), librarian.Result{Archive: b, Names: []string{"a", "b", "a", "c"}}, api.OK)
	expectError(t, b, replace(a9, before("x")), api.ErrAnchor)
	expectError(t, b, replace(d9, after("d")), api.ErrAnchor)
	expectError(t, b, replace(d9, edit.Place{Mode: 3, Anchor: "a"}), api.ErrArg)
	expectError(t, b, deleting("x"), api.ErrMember)
	expectError(t, b, move("x", before("y")), api.ErrMember)
	expectError(t, b, move("b", before("b")), api.ErrAnchor)
	expectError(t, b, move("x", edit.Place{Mode: -1}), api.ErrArg)
	expectError(t, b, extract("x"), api.ErrMember)
}

// commands are all with those members and with those names, at all places with those names.
func commands(all []api.Member, names []string) []librarian.Command {
	places := []edit.Place{atEnd, {Mode: 3}, {Mode: -1, Anchor: names[0]}}
	for _, name := range names {
		places = append(places, before(name), after(name))
	}
	made := []librarian.Command{list()}
	for _, m := range all {
		made = append(made, appending(m))
		for _, at := range places {
			made = append(made, replace(m, at))
		}
	}
	for _, name := range names {
		made = append(made, deleting(name), extract(name))
		for _, at := range places {
			made = append(made, move(name, at))
		}
	}
	return made
}

// effect is what layer 10 makes of the members.
func effect(l []api.Member, c librarian.Command) (after []api.Member, names []string, data []byte, err api.Errno) {
	switch c.Op {
	case 'r':
		after, err = edit.Replace(l, c.Member, c.At)
	case 'q':
		after = edit.Append(l, c.Member)
	case 'd':
		after, err = edit.Delete(l, c.Name)
	case 'm':
		after, err = edit.Move(l, c.Name, c.At)
	case 'x':
		data, err = edit.Extract(l, c.Name)
	case 't':
		names = edit.List(l)
	}
	return after, names, data, err
}

func changes(c librarian.Command) bool { return c.Op != 'x' && c.Op != 't' }

// expectAsDefined checks a command, whose member fits, on an archive with the members.
func expectAsDefined(t *testing.T, b []byte, l []api.Member, c librarian.Command) {
	t.Helper()
	after, names, data, err := effect(l, c)
	switch {
	case err != api.OK:
		expectError(t, b, c, err)
	case changes(c):
		expectChanged(t, b, c, after...)
		r, _ := librarian.Run(b, c)
		expectConsistent(t, r.Archive, after)
	default:
		expectRun(t, b, c, librarian.Result{Archive: b, Names: names, Data: data}, api.OK)
	}
}

// P11.2, P11.4 (and P3): all commands on all lists of up to three members; and on no bytes.
func TestEveryCommand(t *testing.T) {
	added := append(kinds(), defining("new.o", "new"), member("another-long-name.txt", "text"))
	names := []string{"f.o", longName, "a.txt", "empty ", "missing", "", "f.o/"}
	all := commands(added, names)
	eachList(3, kinds()[:4], func(l []api.Member) {
		for _, c := range all {
			expectAsDefined(t, complete(l...), l, c)
		}
	})
	for _, c := range all {
		expectAsDefined(t, nil, nil, c)
		expectAsDefined(t, []byte{}, nil, c)
	}
}

// P11.2: a byte that is no operation comes before every other error.
func TestNoOperation(t *testing.T) {
	archives := [][]byte{nil, []byte(magic), complete(kinds()...), write(true, "text", kinds()...)}
	for text := range malformed() {
		archives = append(archives, []byte(text))
	}
	for op := range 256 {
		if strings.IndexByte("rqdmxt", byte(op)) >= 0 {
			continue
		}
		for _, b := range archives {
			expectError(t, b, librarian.Command{Op: byte(op)}, api.ErrCommand)
			expectError(t, b, librarian.Command{Op: byte(op), Member: member("a/b", ""), Name: "missing", At: edit.Place{Mode: 3}}, api.ErrCommand)
			expectError(t, b, librarian.Command{Op: byte(op), Member: member("a.txt", "abc"), Name: "f.o"}, api.ErrCommand)
		}
	}
}

// misfits are members that do not fit, by the errors of layer 5.
func misfits() map[api.Errno][]api.Member {
	numbers := func(time, uid, gid, mode int) api.Member {
		return api.Member{Name: "new", Time: time, UID: uid, GID: gid, Mode: mode, Data: []byte(objectOf(api.Sym{Name: "f", Bind: api.Strong}))}
	}
	var wrong []api.Member
	for _, name := range []string{"", "/", "//", "a/b", "a/", "/0", "a\nb", "a\x00", strings.Repeat("n", 256)} {
		// A wrong name comes before numbers that do not fit.
		wrong = append(wrong, member(name, "abc"), api.Member{Name: name, Time: -1, Mode: math.MaxInt})
	}
	return map[api.Errno][]api.Member{
		api.ErrName: wrong,
		api.ErrFit: {
			numbers(-1, 0, 0, 0), numbers(1000000000000, 0, 0, 0), numbers(math.MinInt, 0, 0, 0), numbers(math.MaxInt, 0, 0, 0),
			numbers(0, -1, 0, 0), numbers(0, 1000000, 0, 0), numbers(0, 0, -1, 0), numbers(0, 0, 1000000, 0),
			numbers(0, 0, 0, -1), numbers(0, 0, 0, 0o100000000),
		},
	}
}

// P11.2: a member that does not fit is not put into an archive, but the other errors come before.
func TestMisfit(t *testing.T) {
	b := complete(kinds()...)
	for want, l := range misfits() {
		for _, m := range l {
			expectError(t, nil, appending(m), want)
			expectError(t, nil, replace(m, atEnd), want)
			expectError(t, b, appending(m), want)
			for _, at := range []edit.Place{atEnd, before("f.o"), after("f.o"), after("empty ")} {
				expectError(t, b, replace(m, at), want)
			}
			expectError(t, complete(member("new", "old"), member("a.txt", "abc")), replace(m, after("a.txt")), want)
			expectError(t, b, replace(m, before("missing")), api.ErrAnchor)
			expectError(t, b, replace(m, after(m.Name)), api.ErrAnchor)
			expectError(t, b, replace(m, edit.Place{Mode: 3, Anchor: "f.o"}), api.ErrArg)
			expectError(t, []byte("text"), replace(m, atEnd), api.ErrShort)
			expectError(t, []byte("text of an archive"), appending(m), api.ErrMagic)
			expectError(t, b, librarian.Command{Op: 'Q', Member: m}, api.ErrCommand)
		}
	}
}

// P11.2: members at the limits of what fits.
func TestLimits(t *testing.T) {
	for _, m := range []api.Member{
		{Name: "new", Time: 999999999999, UID: 999999, GID: 999999, Mode: 0o77777777, Data: []byte("x")},
		{Name: "zero"},
		member("n", "x"),
		member(" ", "x"),
		member("fifteen bytes o", "x"),
		member("fifteen bytes  ", "x"),
		member("sixteen bytes .o", "x"),
		member("\xff`\r\t.*", "x"),
		member(strings.Repeat("n", 255), "x"),
		member("large", strings.Repeat("0123456789\n", 100000)),
	} {
		for _, l := range [][]api.Member{nil, kinds()} {
			b := complete(l...)
			with := append(slices.Clone(l), m)
			for _, c := range []librarian.Command{appending(m), replace(m, atEnd)} {
				expectAsDefined(t, b, l, c)
			}
			for _, c := range []librarian.Command{list(), extract(m.Name), deleting(m.Name), move(m.Name, atEnd), replace(api.Member{Name: m.Name}, atEnd)} {
				expectAsDefined(t, complete(with...), with, c)
			}
		}
	}
}

// P11.2: fields that the operation does not mention have no effect.
func TestOtherFields(t *testing.T) {
	l := kinds()
	b := complete(l...)
	misfit := api.Member{Name: "a/b", Time: -1}
	wrongPlaces := []edit.Place{{Mode: 3}, {Mode: -1, Anchor: "f.o"}, before("missing"), after("")}
	for _, c := range []librarian.Command{replace(member("new", "text"), before("f.o")), appending(member("f.o", "text")), deleting("f.o"), move("f.o", after("a.txt")), extract("f.o"), list()} {
		want, err := librarian.Run(b, c)
		if err != api.OK {
			t.Errorf("Run of %s has the error %d", brief(c), err)
		}
		for _, at := range wrongPlaces {
			for _, name := range []string{"missing", "", "a.txt", "a/b"} {
				x := c
				if c.Op != 'r' && c.Op != 'q' {
					x.Member = misfit
				}
				if c.Op != 'd' && c.Op != 'm' && c.Op != 'x' {
					x.Name = name
				}
				if c.Op != 'r' && c.Op != 'm' {
					x.At = at
				}
				expectRun(t, b, x, want, api.OK)
			}
		}
	}
	// At the end, an anchor is without effect as well.
	expectChanged(t, b, move("f.o", edit.Place{Anchor: "missing"}), append(slices.Clone(l[1:]), l[0])...)
}

// P11.2, P11.4: archives whose map does not agree with their members, or whose table is not needed, are read as they are, and rewritten by a change.
func TestOtherArchives(t *testing.T) {
	l := kinds()
	text := []api.Member{member("a.txt", "abc")}
	table := "//                                              8         `\nunused/\n"
	for _, x := range []struct {
		b []byte
		l []api.Member
	}{
		{write(false, "", l...), l},
		{write(true, "", l...), l},
		{write(true, "text", l...), l},
		{write(true, "\x00\x00\x00\x00", l...), l},
		{write(true, "\x00\x00\x00\x01\x00\x00\x00\x08f\x00", l...), l},
		{write(true, "\x00\x00\x00\x00", text...), text},
		{write(true, "text", text...), text},
		{write(true, "\x00\x00\x00\x00"), nil},
		{[]byte(magic + table), nil},
		{append([]byte(magic+table), write(false, "", text...)[8:]...), text},
	} {
		for _, c := range commands(kinds(), []string{"f.o", "a.txt", "missing"}) {
			expectAsDefined(t, x.b, x.l, c)
		}
	}
	// A change that leaves the members as they are still makes the archive complete.
	stale := write(true, "text", text...)
	expectChanged(t, stale, move("a.txt", atEnd), text...)
	expectChanged(t, stale, replace(text[0], atEnd), text...)
}

// P11.2: data of every byte, and that of a large member.
func TestData(t *testing.T) {
	var every []byte
	for c := range 256 {
		every = append(every, byte(c))
	}
	for _, data := range [][]byte{nil, []byte("\n"), []byte(magic), complete(kinds()...), every, bytes.Repeat(every, 5000)} {
		m := api.Member{Name: "data", Data: data}
		l := []api.Member{kinds()[0], m, kinds()[1]}
		b := complete(l...)
		expectRun(t, b, extract("data"), librarian.Result{Archive: b, Data: data}, api.OK)
		expectChanged(t, complete(l[0], l[2]), replace(m, before(longName)), l...)
		expectChanged(t, b, deleting("data"), l[0], l[2])
	}
}

// folded is RunAll, made of single commands.
func folded(b []byte, l []librarian.Command) ([]byte, int, api.Errno) {
	if len(l) == 0 {
		return b, 0, api.OK
	}
	archive, count, err := folded(b, l[:len(l)-1])
	if err != api.OK {
		return archive, count, err
	}
	r, err := librarian.Run(archive, l[len(l)-1])
	if err != api.OK {
		return archive, count, err
	}
	return r.Archive, count + 1, api.OK
}

// P11.3: the commands are run one after the other, each on the archive of the one before.
func TestRunAll(t *testing.T) {
	a, f, g := member("a.txt", "abc"), defining("f.o", "f"), defining("g.o", "g")
	expectRunAll(t, nil, []librarian.Command{appending(a)}, complete(a), 1, api.OK)
	expectRunAll(t, nil, []librarian.Command{appending(a), replace(f, before("a.txt")), appending(g)}, complete(f, a, g), 3, api.OK)
	expectRunAll(t, complete(f, a, g), []librarian.Command{move("f.o", atEnd), deleting("a.txt"), list(), extract("g.o"), move("g.o", atEnd)}, complete(f, g), 5, api.OK)
	expectRunAll(t, complete(a), []librarian.Command{deleting("a.txt"), appending(f), deleting("f.o")}, []byte(magic), 3, api.OK)
	expectRunAll(t, nil, []librarian.Command{appending(a), appending(a), replace(api.Member{Name: "a.txt"}, atEnd)}, complete(api.Member{Name: "a.txt"}, a), 3, api.OK)
}

// P11.3: without commands, or with such that change nothing, all bytes stay as they are.
func TestRunAllWithoutChanges(t *testing.T) {
	archives := [][]byte{nil, []byte(magic), complete(kinds()...), write(true, "text", kinds()...), write(false, "", kinds()...)}
	for text, err := range malformed() {
		expectRunAll(t, []byte(text), nil, []byte(text), 0, api.OK)
		expectRunAll(t, []byte(text), []librarian.Command{}, []byte(text), 0, api.OK)
		expectRunAll(t, []byte(text), []librarian.Command{list(), list()}, []byte(text), 0, err)
	}
	for _, b := range archives {
		expectRunAll(t, b, nil, b, 0, api.OK)
		expectRunAll(t, b, []librarian.Command{list(), list(), list()}, b, 3, api.OK)
	}
	b := write(true, "text", kinds()...)
	expectRunAll(t, b, []librarian.Command{extract("f.o"), list(), extract("empty ")}, b, 3, api.OK)
}

// P11.3: the first error ends the commands at every place, with the archive that the ones before have left.
func TestRunAllErrors(t *testing.T) {
	a, f, g := member("a.txt", "abc"), defining("f.o", "f"), defining(longName, "g")
	good := []librarian.Command{appending(a), replace(f, before("a.txt")), list(), appending(g), deleting("a.txt"), extract("f.o"), move("f.o", atEnd)}
	so := [][]byte{complete(a), complete(f, a), complete(f, a), complete(f, a, g), complete(f, g), complete(f, g), complete(g, f)}
	bad := map[api.Errno]librarian.Command{
		api.ErrCommand: {Op: 'z'},
		api.ErrMember:  deleting("missing"),
		api.ErrAnchor:  replace(a, before("missing")),
		api.ErrArg:     replace(a, edit.Place{Mode: 3}),
		api.ErrName:    appending(member("a/b", "abc")),
		api.ErrFit:     appending(api.Member{Name: "new", UID: -1}),
	}
	for _, b := range [][]byte{nil, []byte(magic)} {
		for err, c := range bad {
			expectRunAll(t, b, append([]librarian.Command{c}, good...), b, 0, err)
			expectRunAll(t, b, []librarian.Command{c, c}, b, 0, err)
			for i := range good {
				l := slices.Concat(good[:i+1], []librarian.Command{c}, good[i+1:], []librarian.Command{{Op: 'y'}})
				expectRunAll(t, b, l, so[i], i+1, err)
			}
		}
	}
}

// P11.3, P11.4: all sequences of up to three commands; after one that succeeds and changes the list, the archive is consistent until the end.
func TestEverySequence(t *testing.T) {
	l := kinds()
	all := []librarian.Command{
		list(), extract("f.o"), deleting("f.o"), deleting(longName), move("f.o", atEnd), move("a.txt", before("f.o")),
		appending(l[0]), appending(l[3]), replace(l[1], before("f.o")), replace(l[2], atEnd), replace(l[4], after("a.txt")),
		appending(member("", "")), {Op: 'z'},
	}
	var extend func(b []byte, c []librarian.Command)
	extend = func(b []byte, c []librarian.Command) {
		want, count, err := folded(b, c)
		expectRunAll(t, b, c, want, count, err)
		if slices.ContainsFunc(c[:count], changes) {
			kept, _ := librarian.Members(want)
			expectConsistent(t, want, kept)
		}
		if len(c) == 3 {
			return
		}
		for _, next := range all {
			extend(b, append(slices.Clone(c), next))
		}
	}
	for _, b := range [][]byte{nil, complete(l[0], l[2]), write(true, "text", l...), []byte("text")} {
		extend(b, nil)
	}
}

// P11.2, P11.3: many members and many commands.
func TestManyMembers(t *testing.T) {
	var l []api.Member
	var c []librarian.Command
	for i := range 300 {
		m := defining("m"+strconv.Itoa(i), "f"+strconv.Itoa(i), "g")
		if i%3 == 0 {
			m.Name += "-with-a-long-name.o"
		}
		l = append(l, m)
		c = append(c, appending(m))
	}
	b := complete(l...)
	expectRunAll(t, nil, c, b, len(c), api.OK)
	expectConsistent(t, b, l)
	names := edit.List(l)
	expectRun(t, b, list(), librarian.Result{Archive: b, Names: names}, api.OK)
	for _, i := range []int{0, 1, 150, 298, 299} {
		for _, x := range []librarian.Command{deleting(names[i]), move(names[i], atEnd), extract(names[i]), replace(member(names[i], "text"), before(names[7])), replace(member("new", "text"), after(names[i]))} {
			expectAsDefined(t, b, l, x)
		}
	}
	c = nil
	for i := len(l) - 1; i >= 0; i-- {
		c = append(c, deleting(names[i]))
	}
	expectRunAll(t, b, c, []byte(magic), len(c), api.OK)
}

// arguments are those of a call, with unused capacity behind all slices.
type arguments struct {
	b []byte
	l []librarian.Command
}

func spare(b []byte) []byte {
	return append(bytes.Clone(b), "unused"...)[:len(b)]
}

func newArguments(b []byte, l ...librarian.Command) arguments {
	x := arguments{b: spare(b)}
	for _, c := range l {
		c.Member.Data = spare(c.Member.Data)
		x.l = append(x.l, c)
	}
	x.l = append(x.l, librarian.Command{Name: "unused"})[:len(l)]
	return x
}

// describe tells all of the arguments, with what lies behind their slices.
func (x arguments) describe() string {
	text := strconv.Quote(string(x.b[:cap(x.b)]))
	for _, c := range x.l[:cap(x.l)] {
		text += fmt.Sprintf("\n%+v %q", c, c.Member.Data[:cap(c.Member.Data)])
	}
	return text
}

// overwrite changes the arguments, and what lies behind them.
func (x arguments) overwrite() {
	fill(x.b)
	for _, c := range x.l {
		fill(c.Member.Data)
	}
	clear(x.l[:cap(x.l)])
}

// fill overwrites the bytes, and those behind them that belong to the same memory.
func fill(b []byte) {
	b = b[:cap(b)]
	copy(b, bytes.Repeat([]byte{'#'}, len(b)))
}

// eachArguments visits the arguments of calls that succeed and that fail, in all ways.
func eachArguments(visit func(made func() arguments)) {
	l := kinds()
	all := []librarian.Command{
		replace(l[1], atEnd), replace(member("new", "text"), before("f.o")), replace(l[0], before("missing")), replace(l[0], edit.Place{Mode: 3}),
		appending(l[0]), appending(member("a/b", "text")), deleting("f.o"), deleting("missing"), move("f.o", atEnd), move("missing", atEnd),
		extract("f.o"), extract("a.txt"), extract("missing"), list(), {Op: 'z', Member: l[0]},
	}
	for _, b := range [][]byte{nil, []byte(magic), complete(l...), write(true, "text", l...), []byte("text")} {
		for _, c := range all {
			visit(func() arguments { return newArguments(b, c) })
			visit(func() arguments { return newArguments(b, list(), appending(l[0]), c, appending(l[2])) })
		}
	}
}

// results are those of all functions.
type results struct {
	members []api.Member
	result  librarian.Result
	last    []byte
}

func runWith(x arguments) results {
	var r results
	r.members, _ = librarian.Members(x.b)
	r.result, _ = librarian.Run(x.b, x.l[0])
	r.last, _, _ = librarian.RunAll(x.b, x.l)
	return r
}

func same(a, b results) bool {
	return slices.EqualFunc(a.members, b.members, sameMember) && sameResult(a.result, b.result) && bytes.Equal(a.last, b.last)
}

func (r results) overwrite() {
	for _, m := range r.members {
		fill(m.Data)
	}
	clear(r.members[:cap(r.members)])
	fill(r.result.Archive)
	fill(r.result.Data)
	clear(r.result.Names[:cap(r.result.Names)])
	fill(r.last)
}

// P11.5: neither the bytes nor the commands change, nor what lies behind them.
func TestArgumentsUnchanged(t *testing.T) {
	eachArguments(func(made func() arguments) {
		x := made()
		want := x.describe()
		runWith(x)
		if got := x.describe(); got != want {
			t.Errorf("the arguments were changed from %s to %s", want, got)
		}
	})
}

// P11.5: a result changes neither with the arguments nor with another result.
func TestResultsAreNew(t *testing.T) {
	eachArguments(func(made func() arguments) {
		want := runWith(made())
		x := made()
		unchanged := x.describe()
		got := runWith(x)
		runWith(x).overwrite()
		if after := x.describe(); after != unchanged {
			t.Errorf("after changes of results, the arguments are %s; want %s", after, unchanged)
		}
		x.overwrite()
		if !same(got, want) {
			t.Errorf("after changes of the arguments and of other results, the results are %s; want %s", brief(got), brief(want))
		}
	})
}

// P11.5: the parts of a result do not change with each other.
func TestPartsOfResults(t *testing.T) {
	l := kinds()
	b := complete(l...)
	for i := range l {
		got, _ := librarian.Members(b)
		fill(got[i].Data)
		got[i] = l[i]
		if !slices.EqualFunc(got, l, sameMember) {
			t.Errorf("after a change of member %d, the members are %s", i, brief(got))
		}
	}
	r, _ := librarian.Run(b, extract("f.o"))
	fill(r.Data)
	if !bytes.Equal(r.Archive, b) {
		t.Errorf("with the data, the archive was changed to %q", r.Archive)
	}
	r, _ = librarian.Run(b, extract("f.o"))
	fill(r.Archive)
	if !bytes.Equal(r.Data, l[0].Data) {
		t.Errorf("with the archive, the data was changed to %q", r.Data)
	}
}
