package symindex_test

import (
	"bytes"
	"encoding/binary"
	"fmt"
	"math"
	"slices"
	"strconv"
	"strings"
	"testing"

	"arlink/api"
	"arlink/armap"
	"arlink/arparse"
	"arlink/arwrite"
	"arlink/objsym"
	"arlink/symindex"
)

const (
	magic    = "!<arch>\n"
	longName = "a-very-long-name.o"
)

// object is the encoding of an object by chapter 6, be it valid or not.
func object(body string, syms ...api.Sym) string {
	b := binary.BigEndian.AppendUint32([]byte("OBJ1"), uint32(len(syms)))
	for _, s := range syms {
		b = append(b, byte(s.Bind))
		b = binary.BigEndian.AppendUint32(b, uint32(s.Size))
		b = binary.BigEndian.AppendUint32(b, uint32(s.Align))
		b = append(b, byte(len(s.Name)))
		b = append(b, s.Name...)
	}
	return string(b) + body
}

func strong(name string) api.Sym    { return api.Sym{Name: name, Bind: api.Strong, Size: 8} }
func weak(name string) api.Sym      { return api.Sym{Name: name, Bind: api.Weak} }
func common(name string) api.Sym    { return api.Sym{Name: name, Bind: api.Common, Size: 16, Align: 4} }
func undef(name string) api.Sym     { return api.Sym{Name: name, Bind: api.Undef} }
func weakUndef(name string) api.Sym { return api.Sym{Name: name, Bind: api.WeakUndef} }

// sample is a member with its definitions.
type sample struct {
	member api.Member
	defs   []string
}

func newSample(name, data string, defs ...string) sample {
	m := api.Member{Name: name, Time: 1700000000, UID: 1000, GID: 100, Mode: 0o100644, Data: []byte(data)}
	return sample{m, defs}
}

// defining is a member that defines the names.
func defining(name string, defs ...string) sample {
	var syms []api.Sym
	for _, def := range defs {
		syms = append(syms, strong(def))
	}
	return newSample(name, object("", syms...), defs...)
}

func members(l []sample) []api.Member {
	var list []api.Member
	for _, s := range l {
		list = append(list, s.member)
	}
	return list
}

// part is the encoding of a part by the chapters 2 and 4.
func part(field, numbers, data string) string {
	text := fmt.Sprintf("%-16s%-32s%-10d`\n%s", field, numbers, len(data), data)
	if len(data)%2 == 1 {
		text += "\n"
	}
	return text
}

func mapPart(data string) string {
	return part("/", "0           0     0     0", data)
}

func tablePart(table string) string {
	return part("//", "", table)
}

func memberPart(field string, m api.Member) string {
	return part(field, fmt.Sprintf("%-12d%-6d%-6d%-8o", m.Time, m.UID, m.GID, m.Mode), string(m.Data))
}

// archiveMap is the encoding of an index by chapter 7.
func archiveMap(index []api.Entry) string {
	b := binary.BigEndian.AppendUint32(nil, uint32(len(index)))
	names := ""
	for _, e := range index {
		b = binary.BigEndian.AppendUint32(b, uint32(e.Offset))
		names += e.Name + "\x00"
	}
	return string(b) + names
}

// complete is the complete archive of members by the chapter, with the index and the offsets of the headers.
func complete(l []sample) (text string, index []api.Entry, offsets []int) {
	table, parts := "", ""
	var starts []int
	for _, s := range l {
		field := s.member.Name + "/"
		if len(s.member.Name) > 15 || strings.HasSuffix(s.member.Name, " ") {
			field = "/" + strconv.Itoa(len(table))
			table += s.member.Name + "/\n"
		}
		starts = append(starts, len(parts))
		parts += memberPart(field, s.member)
	}
	if table != "" {
		table = tablePart(table)
	}
	size := len(magic) + len(table)
	for _, s := range l {
		for _, name := range s.defs {
			index = append(index, api.Entry{Name: name})
		}
	}
	if len(index) > 0 {
		size += len(mapPart(archiveMap(index)))
	}
	at := 0
	for i, s := range l {
		offsets = append(offsets, size+starts[i])
		for range s.defs {
			index[at].Offset = size + starts[i]
			at++
		}
	}
	if len(index) > 0 {
		return magic + mapPart(archiveMap(index)) + table + parts, index, offsets
	}
	return magic + table + parts, nil, offsets
}

// describe tells what members there are without their data, which may be long.
func describe(l []api.Member) string {
	text := fmt.Sprintf("%d members", len(l))
	for _, m := range l[:min(len(l), 8)] {
		text += fmt.Sprintf(" {%.40q %d %d %d %#o, %d bytes}", m.Name, m.Time, m.UID, m.GID, m.Mode, len(m.Data))
	}
	return text
}

func expectDefs(t *testing.T, data string, want ...string) {
	t.Helper()
	if defs := symindex.Defs([]byte(data)); !slices.Equal(defs, want) {
		t.Errorf("Defs(%.999q) = %.99q; want %.99q", data, defs, want)
	}
}

func expectIndex(t *testing.T, l []api.Member, want []api.Entry) {
	t.Helper()
	if index, err := symindex.Index(l); !slices.Equal(index, want) || err != api.OK {
		t.Errorf("Index(%s) = %.999v, %d; want %.999v", describe(l), index, err, want)
	}
}

func expectComplete(t *testing.T, l []api.Member, want string) {
	t.Helper()
	if b, err := symindex.Complete(l); string(b) != want || err != api.OK {
		t.Errorf("Complete(%s) = %.999q, %d; want %.999q", describe(l), b, err, want)
	}
}

// expectAt tells the index of the member at an offset, or that there is none, with -1.
func expectAt(t *testing.T, l []api.Member, at, want int) {
	t.Helper()
	i, found := symindex.At(l, at)
	if found != (want >= 0) || i != max(want, 0) {
		t.Errorf("At(%s, %d) = %d, %v; want %d", describe(l), at, i, found, want)
	}
}

// expectAll checks everything that the chapter promises of members that fit, but At only next to the headers.
func expectAll(t *testing.T, l []sample) {
	t.Helper()
	list := members(l)
	text, index, offsets := complete(l)
	for _, s := range l {
		expectDefs(t, string(s.member.Data), s.defs...)
	}
	expectIndex(t, list, index)
	expectComplete(t, list, text)
	for i, offset := range offsets {
		expectAt(t, list, offset, i)
		expectAt(t, list, offset+1, -1)
		expectAt(t, list, offset-1, -1)
	}
	for _, at := range []int{-1, 0, 7, len(text), math.MaxInt, math.MinInt} {
		expectAt(t, list, at, -1)
	}
	expectDecoded(t, list)
}

// expectDecoded checks what follows for the lower layers: they find the index and the members in the complete archive.
func expectDecoded(t *testing.T, l []api.Member) {
	t.Helper()
	b, _ := symindex.Complete(l)
	index, _ := symindex.Index(l)
	a, _, err := arparse.Parse(b)
	if err != api.OK || a.HasMap != (len(index) > 0) || len(a.Members) != len(l) {
		t.Errorf("Parse(%.999q) has the error %d, the map %v and %d members", b, err, a.HasMap, len(a.Members))
		return
	}
	if decoded, err := armap.Decode(a.Map); a.HasMap && (!slices.Equal(decoded, index) || err != api.OK) {
		t.Errorf("the map of the archive %.999q is decoded to %.999v, %d; want %.999v", b, decoded, err, index)
	}
	for _, e := range index {
		i, found := symindex.At(a.Members, e.Offset)
		if !found || a.Offsets[i] != e.Offset || !defines(a.Members[i].Data, e.Name) {
			t.Errorf("the entry %v of the archive %.999q is that of the member %d, %v", e, b, i, found)
		}
	}
}

// defines is the definition of layer 6.
func defines(data []byte, name string) bool {
	o, _ := objsym.Decode(data)
	s, found := objsym.Find(o, name)
	return found && (s.Bind == api.Strong || s.Bind == api.Weak)
}

// expectMisfit checks everything that the chapter promises of members that do not all fit.
func expectMisfit(t *testing.T, l []api.Member, want api.Errno) {
	t.Helper()
	if index, err := symindex.Index(l); index != nil || err != want {
		t.Errorf("Index(%s) = %.999v, %d; want the error %d", describe(l), index, err, want)
	}
	if b, err := symindex.Complete(l); b != nil || err != want {
		t.Errorf("Complete(%s) = %.999q, %d; want the error %d", describe(l), b, err, want)
	}
	for at := range 300 {
		expectAt(t, l, at-1, -1)
	}
}

// P8.1: symbols of every binding, alone and together, in the order of the object.
func TestDefsOfObjects(t *testing.T) {
	expectDefs(t, object(""))
	expectDefs(t, object("body"))
	expectDefs(t, object("", strong("f")), "f")
	expectDefs(t, object("", weak("f")), "f")
	expectDefs(t, object("", common("f")))
	expectDefs(t, object("", undef("f")))
	expectDefs(t, object("", weakUndef("f")))
	expectDefs(t, object("body", undef("a"), weak("z"), common("b"), strong("y"), weakUndef("c"), strong("x"), weak("w")), "z", "y", "x", "w")
	expectDefs(t, object(object("", strong("g")), weak("f")), "f")
	expectDefs(t, object("\x00", strong("\u00e9 \n/"), weak("\xff\x01")), "\u00e9 \n/", "\xff\x01")
}

// P8.1: every sequence of up to five bindings, with names that are not in the order of bytes.
func TestDefsOfAllBindings(t *testing.T) {
	makers := []func(name string) api.Sym{strong, weak, common, undef, weakUndef}
	names := []string{"c", "d", "a", "e", "b"}
	var extend func(syms []api.Sym, defs []string)
	extend = func(syms []api.Sym, defs []string) {
		expectDefs(t, object("body", syms...), defs...)
		if len(syms) == len(names) {
			return
		}
		name := names[len(syms)]
		for i, maker := range makers {
			longer := append(slices.Clone(syms), maker(name))
			if i < 2 {
				extend(longer, append(slices.Clone(defs), name))
			} else {
				extend(longer, defs)
			}
		}
	}
	extend(nil, nil)
}

// P8.1: names of every length, and as many symbols as an object can have.
func TestDefsAtLimits(t *testing.T) {
	for length := 1; length <= 255; length++ {
		name := strings.Repeat("n", length)
		expectDefs(t, object("", strong(name)), name)
	}
	expectDefs(t, object("", strong("")))
	var syms []api.Sym
	var defs []string
	for i := range 1 << 16 {
		name := "f" + strconv.Itoa(i*7919%(1<<16))
		if i%3 == 0 {
			syms = append(syms, undef(name))
			continue
		}
		syms = append(syms, api.Sym{Name: name, Bind: 1 + i%2, Size: 1<<32 - 1})
		defs = append(defs, name)
	}
	expectDefs(t, object("body", syms...), defs...)
	expectDefs(t, object("body", append(syms, strong("last"))...))
}

// P8.1: data that is not the encoding of an object has no definitions, also if some of its symbols are valid.
func TestDefsOfNoObject(t *testing.T) {
	f := strong("f")
	for _, data := range []string{
		"", "x", "OBJ", "OBJ1", "OBJ1\x00\x00\x00", "text", magic, "obj1" + object("", f)[4:], "OBJ2" + object("", f)[4:], "x" + object("", f),
		object("", f, strong("f")), object("", f, undef("f")), object("", f, strong("")), object("", f, strong("g\x00")),
		object("", f, api.Sym{Name: "g", Bind: 0}), object("", f, api.Sym{Name: "g", Bind: 6}), object("", f, api.Sym{Name: "g", Bind: 255}),
		object("", f, api.Sym{Name: "g", Bind: api.Strong, Align: 1}), object("", f, api.Sym{Name: "g", Bind: api.Undef, Size: 1}),
		object("", f, api.Sym{Name: "g", Bind: api.Common}), object("", f, api.Sym{Name: "g", Bind: api.Common, Align: 3}),
		"OBJ1\x00\x00\x00\x02" + object("", f)[8:], "OBJ1\x00\x01\x00\x01" + object("", f)[8:], "OBJ1\xff\xff\xff\xff" + object("", f)[8:],
	} {
		expectDefs(t, data)
		expectAll(t, []sample{newSample("a.o", data), defining("b.o", "g"), newSample("c.o", data)})
	}
	text := object("", f, weak("g"), undef("h"))
	for end := range text {
		expectDefs(t, text[:end])
	}
}

// P8.1: every byte of an object changed to every other one, compared with what layer 6 makes of it.
func TestDefsOfEveryChange(t *testing.T) {
	text := object("body", strong("f"), undef("g"), weak("name"), common("c"))
	for i := range text {
		for c := range 256 {
			b := []byte(text)
			b[i] = byte(c)
			o, _ := objsym.Decode(b)
			var want []string
			for _, s := range o.Syms {
				if s.Bind == api.Strong || s.Bind == api.Weak {
					want = append(want, s.Name)
				}
			}
			expectDefs(t, string(b), want...)
		}
	}
}

// P8.2: the chapter's example, and archives written out, byte by byte.
func TestWrittenOut(t *testing.T) {
	expectComplete(t, nil, magic)
	expectComplete(t, []api.Member{}, magic)
	expectIndex(t, nil, nil)
	expectAll(t, nil)

	text := api.Member{Name: "a.txt", Data: []byte("abc")}
	expectIndex(t, []api.Member{text}, nil)
	expectComplete(t, []api.Member{text}, "!<arch>\n"+
		"a.txt/          0           0     0     0       3         `\nabc\n")
	expectAt(t, []api.Member{text}, 8, 0)

	f := api.Member{Name: "f.o", Time: 1, UID: 2, GID: 3, Mode: 0o644, Data: []byte("OBJ1\x00\x00\x00\x01\x01\x00\x00\x00\x08\x00\x00\x00\x00\x01f")}
	g := api.Member{Name: longName, Data: []byte("OBJ1\x00\x00\x00\x02\x02\x00\x00\x00\x00\x00\x00\x00\x00\x02gg\x01\x00\x00\x00\x00\x00\x00\x00\x00\x01f")}
	expectIndex(t, []api.Member{f}, []api.Entry{{Name: "f", Offset: 78}})
	expectComplete(t, []api.Member{f}, "!<arch>\n"+
		"/               0           0     0     0       10        `\n\x00\x00\x00\x01\x00\x00\x00\x4ef\x00"+
		"f.o/            1           2     3     644     19        `\n"+string(f.Data)+"\n")
	list := []api.Member{f, text, g}
	expectIndex(t, list, []api.Entry{{Name: "f", Offset: 172}, {Name: "gg", Offset: 316}, {Name: "f", Offset: 316}})
	expectComplete(t, list, "!<arch>\n"+
		"/               0           0     0     0       23        `\n\x00\x00\x00\x03\x00\x00\x00\xac\x00\x00\x01\x3c\x00\x00\x01\x3cf\x00gg\x00f\x00\n"+
		"//                                              20        `\na-very-long-name.o/\n"+
		"f.o/            1           2     3     644     19        `\n"+string(f.Data)+"\n"+
		"a.txt/          0           0     0     0       3         `\nabc\n"+
		"/0              0           0     0     0       31        `\n"+string(g.Data)+"\n")
	expectAt(t, list, 172, 0)
	expectAt(t, list, 252, 1)
	expectAt(t, list, 316, 2)
}

// kinds are members with and without definitions, with short and long names, with an odd and an even number of bytes.
func kinds() []sample {
	return []sample{
		newSample("f.o", object("", undef("g"), strong("f")), "f"),
		newSample("two.o", object("odd", weak("g"), common("c"), strong("e")), "g", "e"),
		newSample(longName, object("x", strong("long")), "long"),
		newSample("refs.o", object("", undef("f"), weakUndef("g"), common("h"))),
		newSample("another-long-name.o", "text"),
		newSample("empty ", ""),
		newSample("cut.o", "OBJ1\x00\x00\x00\x01\x01"),
	}
}

// P8.2, P8.3, P8.4: all sequences of up to four members, among them such with the same name and the same definitions.
func TestSequences(t *testing.T) {
	list := kinds()
	var extend func(l []sample)
	extend = func(l []sample) {
		expectAll(t, l)
		if len(l) == 4 {
			return
		}
		for _, s := range list {
			extend(append(slices.Clone(l), s))
		}
	}
	extend(nil)
}

// P8.3: every offset in an archive, and some before and behind it.
func TestEveryOffset(t *testing.T) {
	list := kinds()
	for i := range list {
		for j := range list {
			l := []sample{list[i], list[j], list[0]}
			text, _, offsets := complete(l)
			for at := -70; at < len(text)+70; at++ {
				expectAt(t, members(l), at, slices.Index(offsets, at))
			}
		}
	}
	for at := -70; at < 140; at++ {
		expectAt(t, nil, at, -1)
	}
	for i := range 63 {
		for _, n := range []int{1 << i, -(1 << i)} {
			l := []sample{list[0], list[1]}
			_, _, offsets := complete(l)
			expectAt(t, members(l), offsets[0]+n, slices.Index(offsets, offsets[0]+n))
		}
	}
}

// P8.2, P8.4: the sizes of the map and of the table move the members, whatever they are.
func TestSizes(t *testing.T) {
	for length := 1; length <= 255; length++ {
		name := strings.Repeat("n", length)
		expectAll(t, []sample{newSample("a.txt", "abc"), defining("f.o", name), defining(name, "g", name), newSample("b.txt", "x")})
		expectAll(t, []sample{newSample(name, "abc"), newSample("b.txt", name)})
	}
	for count := range 50 {
		var defs []string
		for i := range count {
			defs = append(defs, strings.Repeat("d", i+1))
		}
		expectAll(t, []sample{defining("a.o", defs...), newSample(longName, ""), defining("b.o", defs...)})
	}
}

// P8.2, P8.3, P8.4: many members, whose definitions are neither sorted nor all different.
func TestManyMembers(t *testing.T) {
	var l []sample
	for i := range 1000 {
		name := strings.Repeat("m", i%40+1) + ".o"
		switch i % 3 {
		case 0:
			l = append(l, defining(name, "f"+strconv.Itoa(i*7919%100), "same"))
		case 1:
			l = append(l, newSample(name, strings.Repeat("x", i)))
		default:
			l = append(l, defining(name, "only"+strconv.Itoa(i)))
		}
	}
	text, index, offsets := complete(l)
	list := members(l)
	expectIndex(t, list, index)
	expectComplete(t, list, text)
	for i := 0; i < len(l); i += 97 {
		expectAt(t, list, offsets[i], i)
		expectAt(t, list, offsets[i]+60, -1)
	}
	expectAt(t, list, offsets[len(l)-1], len(l)-1)
}

// P8.2, P8.3: the error is that of layer 5 for the first member that does not fit, wherever it is, with definitions and without.
func TestMisfit(t *testing.T) {
	wrongName := func(name string) api.Member { return api.Member{Name: name, Data: []byte(object("", strong("h")))} }
	wrong := []api.Member{
		wrongName(""), wrongName("a/b"), wrongName("a\n"), wrongName("\x00"), wrongName(strings.Repeat("n", 256)), {Name: "/", UID: -1},
		{Name: "a", Time: -1}, {Name: "a", Time: 1000000000000}, {Name: "a", UID: -1}, {Name: "a", UID: 1000000}, {Name: "a", GID: -1}, {Name: "a", GID: 1000000}, {Name: "a", Mode: -1}, {Name: "a", Mode: 0o100000000},
	}
	good := members(kinds())
	for i, m := range wrong {
		want := api.ErrFit
		if i < 6 {
			want = api.ErrName
		}
		for at := range len(good) + 1 {
			l := slices.Insert(slices.Clone(good), at, m)
			expectMisfit(t, l, want)
			_, err := arwrite.Fits(l)
			if err != want {
				t.Errorf("the tests take the error of %s for %d; layer 5 for %d", describe(l), want, err)
			}
		}
		expectMisfit(t, []api.Member{m}, want)
	}
	expectMisfit(t, []api.Member{{Name: "a", UID: -1}, {Name: ""}}, api.ErrFit)
	expectMisfit(t, []api.Member{{Name: ""}, {Name: "a", UID: -1}}, api.ErrName)
	expectAll(t, []sample{{api.Member{Name: "a", Time: 999999999999, UID: 999999, GID: 999999, Mode: 0o77777777}, nil}})
}

// P8.2: an offset fits its 4 bytes up to 2^32 - 1, and headers are at even offsets. The members before share their memory, so that there is little of it.
func TestOffsetsOfFourBytes(t *testing.T) {
	const piece = 1 << 24
	zeros := make([]byte, piece)
	f := defining("f.o", "f").member
	none := newSample("none.o", object("", undef("f"), common("g"))).member
	// before has so many bytes in an archive behind the magic number and the map of f.
	before := func(size int) []api.Member {
		var l []api.Member
		for ; size > piece; size -= piece {
			l = append(l, api.Member{Name: "zeros", Data: zeros[:piece-60]})
		}
		return append(l, api.Member{Name: "zeros", Data: zeros[:size-60]})
	}
	const start = 8 + 60 + 10
	const last = 1<<32 - 2
	expectIndex(t, append(before(last-2-start), f), []api.Entry{{Name: "f", Offset: last - 2}})
	expectIndex(t, append(before(last-start), f), []api.Entry{{Name: "f", Offset: last}})
	for _, size := range []int{last + 1, last + 2, 1<<32 + 1<<30, 1<<33 + 78} {
		l := append(before(size-start), f)
		if index, err := symindex.Index(l); index != nil || err != api.ErrFit {
			// Complete would go on to write an archive of more than 4 GiB.
			t.Fatalf("Index(%s) = %v, %d; want the error %d", describe(l), index, err, api.ErrFit)
		}
		if b, err := symindex.Complete(l); b != nil || err != api.ErrFit {
			t.Errorf("Complete(%s) has %d bytes and the error %d; want the error %d", describe(l), len(b), err, api.ErrFit)
		}
		expectIndex(t, append(before(size-start), none), nil)
		expectIndex(t, append(append([]api.Member{f}, before(size-start)...), none), []api.Entry{{Name: "f", Offset: start}})
	}
}

// P8.5: neither the data and the members change, nor what lies behind them.
func TestArgumentsUnchanged(t *testing.T) {
	for _, s := range append(kinds(), newSample("a/b", object("", strong("f")))) {
		unused := []byte(string(s.member.Data) + "unused")
		want := string(unused)
		m := s.member
		m.Data = unused[:len(m.Data)]
		l := append(members(kinds()), m, api.Member{Name: "unused"})
		wantList := slices.Clone(l)
		symindex.Defs(m.Data)
		symindex.Index(l[:len(l)-1])
		symindex.Complete(l[:len(l)-1])
		symindex.At(l[:len(l)-1], 8)
		if string(unused) != want || !slices.EqualFunc(l, wantList, sameMember) {
			t.Errorf("the arguments were changed to %s, the last with the data %q; want %s, %q", describe(l), unused, describe(wantList), want)
		}
	}
}

func sameMember(a, b api.Member) bool {
	return a.Name == b.Name && a.Time == b.Time && a.UID == b.UID && a.GID == b.GID && a.Mode == b.Mode && bytes.Equal(a.Data, b.Data)
}

// P8.5: a result changes neither with the arguments nor with another result.
func TestResultsAreNew(t *testing.T) {
	all := kinds()
	for _, l := range [][]sample{all, all[:1], all[3:], nil} {
		text, wantIndex, _ := complete(l)
		list := members(l)
		for i := range list {
			list[i].Data = bytes.Clone(list[i].Data)
		}
		index, _ := symindex.Index(list)
		other, _ := symindex.Index(list)
		clear(other[:cap(other)])
		archive, _ := symindex.Complete(list)
		otherArchive, _ := symindex.Complete(list)
		fill(otherArchive)
		var defs []string
		for i := range list {
			first := symindex.Defs(list[i].Data)
			clear(first[:cap(first)])
			defs = append(defs, symindex.Defs(list[i].Data)...)
			if !bytes.Equal(list[i].Data, l[i].member.Data) {
				t.Errorf("with a result, the data was changed to %q", list[i].Data)
			}
			fill(list[i].Data)
		}
		clear(list)
		var names []string
		for _, e := range wantIndex {
			names = append(names, e.Name)
		}
		if !slices.Equal(index, wantIndex) || string(archive) != text || !slices.Equal(defs, names) {
			t.Errorf("after changes of other results and the arguments, the results are %v, %q, %q", index, archive, defs)
		}
	}
}

// fill overwrites the bytes, and those behind them that belong to the same memory.
func fill(b []byte) {
	b = b[:cap(b)]
	copy(b, bytes.Repeat([]byte{'#'}, len(b)))
}
