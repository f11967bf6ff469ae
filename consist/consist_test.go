package consist_test

import (
	"bytes"
	"fmt"
	"slices"
	"strconv"
	"strings"
	"testing"

	"arlink/api"
	"arlink/armap"
	"arlink/arparse"
	"arlink/arwrite"
	"arlink/consist"
	"arlink/objsym"
	"arlink/symindex"
)

const (
	magic    = "!<arch>\n"
	longName = "a-very-long-name.o"
)

// sample is a member with its definitions.
type sample struct {
	member api.Member
	defs   []string
}

func newSample(name string, data []byte, defs ...string) sample {
	m := api.Member{Name: name, Time: 1700000000, UID: 1000, GID: 100, Mode: 0o100644, Data: data}
	return sample{m, defs}
}

// objectOf is the encoding of an object with the symbols.
func objectOf(syms ...api.Sym) []byte {
	b, err := objsym.Encode(api.Object{Syms: syms, Body: []byte("code")})
	if err != api.OK {
		panic(err)
	}
	return b
}

// defining is a member that defines the names, strongly and weakly in turns, between symbols that are no definitions.
func defining(name string, defs ...string) sample {
	syms := []api.Sym{{Name: "undef", Bind: api.Undef}, {Name: "common", Bind: api.Common, Size: 8, Align: 4}}
	for i, def := range defs {
		syms = append(syms, api.Sym{Name: def, Bind: api.Strong + i%2})
	}
	syms = append(syms, api.Sym{Name: "weakundef", Bind: api.WeakUndef})
	return newSample(name, objectOf(syms...), defs...)
}

// kinds are members with and without definitions, with short and long names, with an odd and an even number of bytes.
func kinds() []sample {
	return []sample{
		defining("f.o", "f"),
		defining("fg.o", "g", "f"),
		defining(longName, "long"),
		defining("refs.o"),
		newSample("a.txt", []byte("abc")),
		newSample("empty ", nil),
		newSample("cut.o", objectOf(api.Sym{Name: "f", Bind: api.Strong})[:10]),
	}
}

func members(l []sample) []api.Member {
	var list []api.Member
	for _, s := range l {
		list = append(list, s.member)
	}
	return list
}

func defsOf(l []sample) [][]string {
	var list [][]string
	for _, s := range l {
		list = append(list, s.defs)
	}
	return list
}

// eachSequence visits all sequences of up to so many of the kinds.
func eachSequence(length int, visit func(l []sample)) {
	all := kinds()
	var extend func(l []sample)
	extend = func(l []sample) {
		visit(l)
		if len(l) == length {
			return
		}
		for _, s := range all {
			extend(append(slices.Clone(l), s))
		}
	}
	extend(nil)
}

// claim is an entry of a map that is still to be made: the name, the member, and the distance of the offset from its header.
type claim struct {
	name   string
	member int
	shift  int
}

// claims are those of the actual index.
func claims(l []sample) []claim {
	var list []claim
	for i, s := range l {
		for _, name := range s.defs {
			list = append(list, claim{name, i, 0})
		}
	}
	return list
}

// entries are the entries with the claims, in an archive with a map of mapSize bytes.
func entries(l []sample, list []claim, hasMap bool, mapSize int) []api.Entry {
	offsets := arwrite.Offsets(hasMap, mapSize, members(l))
	var index []api.Entry
	for _, c := range list {
		index = append(index, api.Entry{Name: c.name, Offset: offsets[c.member] + c.shift})
	}
	return index
}

func actual(l []sample, hasMap bool, mapSize int) []api.Entry {
	return entries(l, claims(l), hasMap, mapSize)
}

// mapOf is the map with the claims, where the offsets are those behind this map.
func mapOf(l []sample, list []claim) []byte {
	var names []string
	for _, c := range list {
		names = append(names, c.name)
	}
	b, err := armap.Encode(entries(l, list, true, armap.Size(names)))
	if err != api.OK {
		panic(err)
	}
	return b
}

func archive(l []sample, hasMap bool, m []byte) []byte {
	b, err := arwrite.Write(hasMap, m, members(l))
	if err != api.OK {
		panic(err)
	}
	return b
}

// brief tells a value that may be long.
func brief(value any) string {
	return fmt.Sprintf("%.999s", fmt.Sprintf("%+v", value))
}

func sameMember(a, b api.Member) bool {
	return a.Name == b.Name && a.Time == b.Time && a.UID == b.UID && a.GID == b.GID && a.Mode == b.Mode && bytes.Equal(a.Data, b.Data)
}

func sameView(v consist.View, l []sample) bool {
	return slices.EqualFunc(v.Members, members(l), sameMember) && slices.EqualFunc(v.Defs, defsOf(l), slices.Equal[[]string])
}

// expectOpened checks that an archive of the members is consistent.
func expectOpened(t *testing.T, b []byte, l []sample) {
	t.Helper()
	v, offset, err := consist.Open(b)
	if !sameView(v, l) || offset != 0 || err != api.OK {
		t.Errorf("Open(%.999q) = %s, %d, %d; want %s", b, brief(v), offset, err, brief(l))
	}
	expectChecked(t, b, api.OK)
}

// expectFailed checks that bytes are not opened.
func expectFailed(t *testing.T, b []byte, offset int, err api.Errno) {
	t.Helper()
	v, gotOffset, gotErr := consist.Open(b)
	if v.Members != nil || v.Defs != nil || gotOffset != offset || gotErr != err {
		t.Errorf("Open(%.999q) = %s, %d, %d; want the offset %d and the error %d", b, brief(v), gotOffset, gotErr, offset, err)
	}
}

// expectWrongMap checks that an archive, which can be parsed, is not consistent.
func expectWrongMap(t *testing.T, b []byte, err api.Errno) {
	t.Helper()
	expectFailed(t, b, 8, err)
	expectChecked(t, b, err)
}

func expectChecked(t *testing.T, b []byte, want api.Errno) {
	t.Helper()
	a, _, err := arparse.Parse(b)
	if err != api.OK {
		t.Errorf("Parse(%.999q) has the error %d", b, err)
	}
	if err := consist.Check(a); err != want {
		t.Errorf("Check(%.999q) = %d; want %d", b, err, want)
	}
}

func expectIndex(t *testing.T, b []byte, want []api.Entry) {
	t.Helper()
	a, _, err := arparse.Parse(b)
	if index := consist.Index(a); !slices.Equal(index, want) || err != api.OK {
		t.Errorf("Index(%.999q) = %s (Parse: %d); want %s", b, brief(index), err, brief(want))
	}
}

// P9.1, P9.2: the chapter's examples, and archives written out, byte by byte.
func TestWrittenOut(t *testing.T) {
	expectOpened(t, []byte(magic), nil)
	expectIndex(t, []byte(magic), nil)
	object := "OBJ1\x00\x00\x00\x01\x01\x00\x00\x00\x08\x00\x00\x00\x00\x01f"
	f := []sample{{api.Member{Name: "f.o", Time: 1, UID: 2, GID: 3, Mode: 0o644, Data: []byte(object)}, []string{"f"}}}
	part := "f.o/            1           2     3     644     19        `\n" + object + "\n"
	expectWrongMap(t, []byte(magic+part), api.ErrStale)
	expectIndex(t, []byte(magic+part), []api.Entry{{Name: "f", Offset: 8}})

	header := "/               0           0     0     0       10        `\n"
	right := magic + header + "\x00\x00\x00\x01\x00\x00\x00\x4ef\x00" + part
	expectOpened(t, []byte(right), f)
	expectIndex(t, []byte(right), []api.Entry{{Name: "f", Offset: 78}})
	expectWrongMap(t, []byte(magic+header+"\x00\x00\x00\x01\x00\x00\x00\x08f\x00"+part), api.ErrStale)
	expectWrongMap(t, []byte(magic+header+"\x00\x00\x00\x01\x00\x00\x00\x4eg\x00"+part), api.ErrStale)
	expectWrongMap(t, []byte(magic+header+"\x00\x00\x00\x02\x00\x00\x00\x4ef\x00"+part), api.ErrMap)
	expectIndex(t, []byte(magic+header+"0123456789"+part), []api.Entry{{Name: "f", Offset: 78}})

	empty := "/               0           0     0     0       4         `\n\x00\x00\x00\x00"
	expectOpened(t, []byte(magic+empty), nil)
	expectWrongMap(t, []byte(magic+empty+part), api.ErrStale)
	expectWrongMap(t, []byte(magic+"/               0           0     0     0       0         `\n"), api.ErrMap)
}

// P9.1, P9.2: all sequences of up to four members, without a map, with the right one, with an empty one, and with one that is malformed.
func TestSequences(t *testing.T) {
	eachSequence(4, func(l []sample) {
		list := claims(l)
		right := mapOf(l, list)
		withRight, without, withEmpty, malformed := archive(l, true, right), archive(l, false, nil), archive(l, true, make([]byte, 4)), archive(l, true, []byte("map"))
		expectOpened(t, withRight, l)
		expectIndex(t, withRight, actual(l, true, len(right)))
		expectIndex(t, without, actual(l, false, 0))
		expectIndex(t, withEmpty, actual(l, true, 4))
		expectIndex(t, malformed, actual(l, true, 3))
		expectWrongMap(t, malformed, api.ErrMap)
		if len(list) > 0 {
			expectWrongMap(t, without, api.ErrStale)
			expectWrongMap(t, withEmpty, api.ErrStale)
		} else {
			expectOpened(t, without, l)
			expectOpened(t, withEmpty, l)
		}
	})
}

// P9.1, P9.2: maps that are decoded, but have an entry too few, too many, at a wrong place, or with another name or offset.
func TestStale(t *testing.T) {
	l := kinds()
	list := claims(l)
	expectOpened(t, archive(l, true, mapOf(l, list)), l)
	expectStale := func(edited []claim) {
		t.Helper()
		expectWrongMap(t, archive(l, true, mapOf(l, edited)), api.ErrStale)
	}
	for i, c := range list {
		replace := func(changed claim) {
			t.Helper()
			edited := slices.Clone(list)
			edited[i] = changed
			expectStale(edited)
		}
		expectStale(slices.Delete(slices.Clone(list), i, i+1))
		expectStale(list[:i])
		expectStale(slices.Insert(slices.Clone(list), i, c))
		for j := range l {
			if j != c.member {
				replace(claim{c.name, j, 0})
			}
			for _, name := range []string{"new", "common", "undef", "weakundef", "f"} {
				expectStale(slices.Insert(slices.Clone(list), i, claim{name, j, 0}))
			}
		}
		for j := range i {
			edited := slices.Clone(list)
			edited[i], edited[j] = edited[j], edited[i]
			expectStale(edited)
		}
		for _, name := range []string{c.name + "x", "x" + c.name, strings.ToUpper(c.name), c.name + " ", "other"} {
			replace(claim{name, c.member, 0})
		}
		for bit := range 31 {
			replace(claim{c.name, c.member, 1 << bit})
		}
		for shift := 1; shift <= 150; shift++ {
			replace(claim{c.name, c.member, -shift})
		}
	}
	expectStale(append(slices.Clone(list), claim{"new", 0, 0}))
	expectStale(append(slices.Clone(list), list...))
	slices.Reverse(list)
	expectStale(list)
}

// P9.1, P9.2: a map that is not decoded, before members with definitions and without.
func TestMalformedMap(t *testing.T) {
	entry := "\x00\x00\x00\x01\x00\x00\x00\x50"
	for _, m := range []string{
		"", "\x00", "\x00\x00\x00", "\x00\x00\x00\x00\x00", "\x00\x00\x00\x00f\x00", "\x00\x00\x00\x01", "\xff\xff\xff\xff", "\x01\x00\x00\x00", entry, entry + "f", entry + "\x00", entry + "\x00\x00", entry + "f\x00\x00", entry + "f\x00g\x00", entry + "f\x00f",
	} {
		for _, l := range [][]sample{nil, kinds(), kinds()[:1], kinds()[3:]} {
			expectWrongMap(t, archive(l, true, []byte(m)), api.ErrMap)
		}
	}
	l := kinds()
	right := mapOf(l, claims(l))
	for end := range right {
		expectWrongMap(t, archive(l, true, right[:end]), api.ErrMap)
	}
	expectWrongMap(t, archive(l, true, append(right, 0)), api.ErrMap)
}

// expectAsDefined compares with the chapter's definitions and layers 4, 7 and 8.
func expectAsDefined(t *testing.T, b []byte) {
	t.Helper()
	a, offset, err := arparse.Parse(b)
	if err != api.OK {
		expectFailed(t, b, offset, err)
		return
	}
	var l []sample
	var want []api.Entry
	for i, m := range a.Members {
		s := sample{m, symindex.Defs(m.Data)}
		l = append(l, s)
		for _, name := range s.defs {
			want = append(want, api.Entry{Name: name, Offset: a.Offsets[i]})
		}
	}
	expectIndex(t, b, want)
	listed, err := armap.Decode(a.Map)
	switch {
	case a.HasMap && err != api.OK:
		expectWrongMap(t, b, api.ErrMap)
	case a.HasMap && !slices.Equal(listed, want) || !a.HasMap && len(want) > 0:
		expectWrongMap(t, b, api.ErrStale)
	default:
		expectOpened(t, b, l)
	}
}

// P9.1, P9.2: every byte of an archive changed to every other one.
func TestEveryChange(t *testing.T) {
	l := []sample{kinds()[1], kinds()[2], kinds()[5]}
	for _, text := range [][]byte{archive(l, true, mapOf(l, claims(l))), archive(l, false, nil), archive(l[2:], false, nil)} {
		for i := range text {
			b := bytes.Clone(text)
			for c := range 256 {
				b[i] = byte(c)
				expectAsDefined(t, b)
			}
		}
	}
}

// P9.1, P9.2: every byte of the map changed to every other one leaves no archive consistent.
func TestEveryChangeOfMap(t *testing.T) {
	l := kinds()[:3]
	right := mapOf(l, claims(l))
	for i := range right {
		for c := range 256 {
			m := bytes.Clone(right)
			m[i] = byte(c)
			switch _, err := armap.Decode(m); {
			case byte(c) == right[i]:
				expectOpened(t, archive(l, true, m), l)
			case err != api.OK:
				expectWrongMap(t, archive(l, true, m), api.ErrMap)
			default:
				expectWrongMap(t, archive(l, true, m), api.ErrStale)
			}
		}
	}
}

// P9.2: every prefix, most of which cannot be parsed.
func TestEveryPrefix(t *testing.T) {
	l := kinds()
	for _, text := range [][]byte{archive(l, true, mapOf(l, claims(l))), archive(l, false, nil), archive(l[3:], false, nil)} {
		for end := range len(text) + 1 {
			expectAsDefined(t, text[:end])
		}
	}
	expectFailed(t, nil, 0, api.ErrShort)
	expectFailed(t, []byte(magic[:7]), 0, api.ErrShort)
}

// P9.2: the errors of layer 4, with their offsets, come before those of the map.
func TestParseErrorsFirst(t *testing.T) {
	l := kinds()
	maps := map[string][]byte{"right": mapOf(l, claims(l)), "stale": mapOf(l, claims(l)[1:]), "malformed": []byte("text")}
	for _, m := range maps {
		text := archive(l, true, m)
		last := len(text)
		changed := func(at int, c byte) []byte {
			b := bytes.Clone(text)
			b[at] = c
			return b
		}
		extended := func(part string) []byte { return []byte(string(text) + part) }
		expectFailed(t, changed(0, '?'), 0, api.ErrMagic)
		expectFailed(t, changed(8+58, '?'), 8, api.ErrMark)
		expectFailed(t, changed(8+48, ' '), 8, api.ErrField)
		expectFailed(t, changed(8, ' '), 8, api.ErrName)
		expectFailed(t, extended("x"), last, api.ErrShort)
		expectFailed(t, extended("/               0           0     0     0       0         `\n"), last, api.ErrMap)
		expectFailed(t, extended("//                                              0         `\n"), last, api.ErrTable)
		expectFailed(t, extended("/7              0           0     0     0       0         `\n"), last, api.ErrName)
		expectFailed(t, extended("a/              0           0     0     0       1         `\nxx"), last, api.ErrPad)
	}
	expectFailed(t, []byte(magic+"x"), 8, api.ErrShort)
	expectFailed(t, []byte("OBJ1\x00\x00\x00\x00"), 0, api.ErrMagic)
}

// P9.1, P9.2: an archive need not be the complete one to be consistent; it may have a table that is not needed, or names in it that are short.
func TestOtherArchives(t *testing.T) {
	f := defining("f.o", "f", "g")
	table := "//                                              10        `\nf.o/\nfgh/\n"
	numbers := "1700000000  1000  100   100644  " + fmt.Sprintf("%-10d`\n", len(f.member.Data)) + string(f.member.Data)
	if len(f.member.Data)%2 == 1 {
		numbers += "\n"
	}
	for _, field := range []string{"f.o/            ", "/0              "} {
		size := armap.Size(f.defs)
		at := 8 + 60 + size + 60 + 10
		index := []api.Entry{{Name: "f", Offset: at}, {Name: "g", Offset: at}}
		m, _ := armap.Encode(index)
		b := []byte(magic + "/               0           0     0     0       " + fmt.Sprintf("%-10d`\n", size) + string(m) + table + field + numbers)
		expectOpened(t, b, []sample{f})
		expectIndex(t, b, index)
		// The offset in the complete archive does not count.
		complete, _ := symindex.Index([]api.Member{f.member})
		m, _ = armap.Encode(complete)
		copy(b[8+60:], m)
		expectWrongMap(t, b, api.ErrStale)
		expectIndex(t, b, index)
		b = []byte(magic + table + field + numbers)
		expectWrongMap(t, b, api.ErrStale)
		expectIndex(t, b, []api.Entry{{Name: "f", Offset: 78}, {Name: "g", Offset: 78}})
	}
}

// P9.3: the complete archive of any members is consistent.
func TestComplete(t *testing.T) {
	expectComplete := func(l []sample) {
		t.Helper()
		b, err := symindex.Complete(members(l))
		if err != api.OK {
			t.Errorf("Complete(%s) has the error %d", brief(l), err)
		}
		expectOpened(t, b, l)
		index, _ := symindex.Index(members(l))
		expectIndex(t, b, index)
	}
	eachSequence(4, expectComplete)
	for length := 1; length <= 255; length++ {
		name := strings.Repeat("n", length)
		expectComplete([]sample{defining(name, name), newSample("a.txt", nil), defining("b.o", "f", name)})
	}
	var many []sample
	for i := range 20000 {
		name := strings.Repeat("m", i%40+1) + ".o"
		many = append(many, defining(name, "f"+strconv.Itoa(i*7919%100), "same"), newSample(name, []byte(name)))
	}
	expectComplete(many)
	var defs []string
	for i := range 60000 {
		defs = append(defs, "f"+strconv.Itoa(i*7919%60000))
	}
	expectComplete([]sample{defining("a.o", defs...), defining("b.o", defs...)})
}

// P9.4: neither the bytes nor the archive change, nor what lies behind them.
func TestArgumentsUnchanged(t *testing.T) {
	l := kinds()
	right := mapOf(l, claims(l))
	for _, text := range [][]byte{archive(l, true, right), archive(l, true, right[1:]), archive(l, false, nil), archive(l[3:], false, nil), []byte("text")} {
		b := append(bytes.Clone(text), "unused"...)
		consist.Open(b[:len(text)])
		if string(b) != string(text)+"unused" {
			t.Errorf("Open changed %.999q to %.999q", text, b)
		}
		a, _, _ := arparse.Parse(text)
		a.Members = append(a.Members, api.Member{Name: "unused"})[:len(a.Members)]
		a.Offsets = append(a.Offsets, 12345)[:len(a.Offsets)]
		a.Map = append(a.Map, "unused"...)[:len(a.Map)]
		before := describe(a)
		consist.Index(a)
		consist.Check(a)
		if after := describe(a); after != before {
			t.Errorf("the archive was changed from %s to %s", before, after)
		}
	}
}

// describe tells all of an archive, with what lies behind its slices.
func describe(a arparse.Archive) string {
	return fmt.Sprintf("%v %q %v %v", a.HasMap, a.Map[:cap(a.Map)], a.Members[:cap(a.Members)], a.Offsets[:cap(a.Offsets)])
}

// P9.4: a result changes neither with the arguments nor with another result or another part of it.
func TestResultsAreNew(t *testing.T) {
	l := kinds()
	right := mapOf(l, claims(l))
	text := archive(l, true, right)
	b := bytes.Clone(text)
	v, _, _ := consist.Open(b)
	other, _, _ := consist.Open(b)
	fillView(other)
	if !bytes.Equal(b, text) {
		t.Errorf("with a view, the bytes were changed to %q", b)
	}
	fill(b)
	if !sameView(v, l) {
		t.Errorf("after changes of the bytes and of another view, the view is %s", brief(v))
	}
	for i := range l {
		part, _, _ := consist.Open(text)
		fill(part.Members[i].Data)
		clear(part.Defs[i][:cap(part.Defs[i])])
		part.Members[i], part.Defs[i] = l[i].member, l[i].defs
		if !sameView(part, l) {
			t.Errorf("after a change of member %d, the others are %s", i, brief(part))
		}
	}
	a, _, _ := arparse.Parse(text)
	index, again := consist.Index(a), consist.Index(a)
	clear(again[:cap(again)])
	clear(a.Offsets)
	for _, m := range a.Members {
		fill(m.Data)
	}
	if want := actual(l, true, len(right)); !slices.Equal(index, want) {
		t.Errorf("after changes of the archive and of another index, the index is %v; want %v", index, want)
	}
}

func fillView(v consist.View) {
	for i := range v.Members {
		fill(v.Members[i].Data)
		clear(v.Defs[i][:cap(v.Defs[i])])
	}
	clear(v.Members[:cap(v.Members)])
	clear(v.Defs[:cap(v.Defs)])
}

// fill overwrites the bytes, and those behind them that belong to the same memory.
func fill(b []byte) {
	b = b[:cap(b)]
	copy(b, bytes.Repeat([]byte{'#'}, len(b)))
}

// Archives that no bytes are parsed to must not make the functions panic, but nothing else is promised of them.
func TestUnparsedArchives(t *testing.T) {
	l := members(kinds())
	for count := range 10 {
		a := arparse.Archive{Members: l[:min(count, len(l))], Offsets: make([]int, 9-count)}
		for _, hasMap := range []bool{false, true} {
			a.HasMap = hasMap
			consist.Index(a)
			consist.Check(a)
		}
	}
}
