package edit_test

import (
	"bytes"
	"fmt"
	"math"
	"slices"
	"strconv"
	"strings"
	"testing"

	"arlink/api"
	"arlink/edit"
)

var (
	atEnd      = edit.Place{Mode: edit.End}
	wrongModes = []int{-1, 3, 4, 'b', 1 << 32, 1<<32 + 1, math.MaxInt, math.MinInt, math.MinInt + 1}
)

func before(anchor string) edit.Place { return edit.Place{Mode: edit.Before, Anchor: anchor} }
func after(anchor string) edit.Place  { return edit.Place{Mode: edit.After, Anchor: anchor} }

// member is a member whose text is its name and a number, in which members of the same name differ in everything else.
func member(text string) api.Member {
	at := strings.IndexFunc(text, func(r rune) bool { return '0' <= r && r <= '9' })
	n, err := strconv.Atoi(text[at:])
	if err != nil {
		panic(err)
	}
	return api.Member{Name: text[:at], Time: n, UID: n + 1, GID: -n, Mode: n + 2, Data: []byte(text)}
}

// list is a list of the members whose texts are separated by spaces.
func list(texts string) []api.Member {
	var l []api.Member
	for _, text := range strings.Fields(texts) {
		l = append(l, member(text))
	}
	return l
}

func sameMember(a, b api.Member) bool {
	return a.Name == b.Name && a.Time == b.Time && a.UID == b.UID && a.GID == b.GID && a.Mode == b.Mode && bytes.Equal(a.Data, b.Data)
}

func sameList(a, b []api.Member) bool { return slices.EqualFunc(a, b, sameMember) }

// brief tells a value that may be long.
func brief(value any) string {
	return fmt.Sprintf("%.999s", fmt.Sprintf("%+v", value))
}

// expectList checks the list and the error of a call, which is told by its words.
func expectList(t *testing.T, got []api.Member, gotErr api.Errno, want []api.Member, wantErr api.Errno, call ...any) {
	t.Helper()
	if !sameList(got, want) || gotErr != wantErr {
		t.Errorf("%s = %s, %d; want %s, %d", brief(call), brief(got), gotErr, brief(want), wantErr)
	}
}

func expectReplaced(t *testing.T, l []api.Member, m api.Member, p edit.Place, want []api.Member, wantErr api.Errno) {
	t.Helper()
	got, err := edit.Replace(l, m, p)
	expectList(t, got, err, want, wantErr, "Replace", l, m, p)
}

func expectAppended(t *testing.T, l []api.Member, m api.Member, want []api.Member) {
	t.Helper()
	expectList(t, edit.Append(l, m), api.OK, want, api.OK, "Append", l, m)
}

func expectDeleted(t *testing.T, l []api.Member, name string, want []api.Member, wantErr api.Errno) {
	t.Helper()
	got, err := edit.Delete(l, name)
	expectList(t, got, err, want, wantErr, "Delete", l, name)
}

func expectMoved(t *testing.T, l []api.Member, name string, p edit.Place, want []api.Member, wantErr api.Errno) {
	t.Helper()
	got, err := edit.Move(l, name, p)
	expectList(t, got, err, want, wantErr, "Move", l, name, p)
}

func expectExtracted(t *testing.T, l []api.Member, name string, want []byte, wantErr api.Errno) {
	t.Helper()
	data, err := edit.Extract(l, name)
	if !bytes.Equal(data, want) || err != wantErr || err != api.OK && data != nil {
		t.Errorf("Extract(%s, %.99q) = %.99q, %d; want %.99q, %d", brief(l), name, data, err, want, wantErr)
	}
}

func expectFound(t *testing.T, l []api.Member, name string, want int) {
	t.Helper()
	if i := edit.Find(l, name); i != want {
		t.Errorf("Find(%s, %.99q) = %d; want %d", brief(l), name, i, want)
	}
}

// P10.1: the first member with the name.
func TestFind(t *testing.T) {
	l := list("a1 b2 a3 c4 b5")
	for name, want := range map[string]int{"a": 0, "b": 1, "c": 3, "d": -1, "": -1, "a1": -1, "A": -1, "a ": -1, "ab": -1} {
		expectFound(t, l, name, want)
	}
	expectFound(t, nil, "a", -1)
	expectFound(t, nil, "", -1)
	expectFound(t, []api.Member{{Name: "a"}, {}}, "", 1)
}

// P10.2: a member is replaced at its position, whatever the place is, if the place exists.
func TestReplaceAtPosition(t *testing.T) {
	l := list("a1 b2 c3")
	for _, p := range []edit.Place{atEnd, before("a"), after("a"), before("b"), after("b"), before("c"), after("c")} {
		expectReplaced(t, l, member("a9"), p, list("a9 b2 c3"), api.OK)
		expectReplaced(t, l, member("b9"), p, list("a1 b9 c3"), api.OK)
		expectReplaced(t, l, member("c9"), p, list("a1 b2 c9"), api.OK)
		expectReplaced(t, l, member("c3"), p, l, api.OK)
	}
	// Only the first of several is replaced, also if the place is at another one.
	expectReplaced(t, list("x1 a2 a3 a4"), member("a9"), atEnd, list("x1 a9 a3 a4"), api.OK)
	expectReplaced(t, list("b1 a2 b3 a4"), member("a9"), after("b"), list("b1 a9 b3 a4"), api.OK)
}

// P10.2: a member that is not there yet is inserted at the place.
func TestReplaceInserts(t *testing.T) {
	l := list("a1 b2 c3")
	expectReplaced(t, l, member("d9"), atEnd, list("a1 b2 c3 d9"), api.OK)
	expectReplaced(t, l, member("d9"), before("a"), list("d9 a1 b2 c3"), api.OK)
	expectReplaced(t, l, member("d9"), after("a"), list("a1 d9 b2 c3"), api.OK)
	expectReplaced(t, l, member("d9"), before("b"), list("a1 d9 b2 c3"), api.OK)
	expectReplaced(t, l, member("d9"), before("c"), list("a1 b2 d9 c3"), api.OK)
	expectReplaced(t, l, member("d9"), after("c"), list("a1 b2 c3 d9"), api.OK)
	expectReplaced(t, nil, member("d9"), atEnd, list("d9"), api.OK)
	// The anchor is the first of several members with its name, and at the end it has no effect.
	expectReplaced(t, list("a1 b2 a3 b4"), member("d9"), before("b"), list("a1 d9 b2 a3 b4"), api.OK)
	expectReplaced(t, list("a1 b2 a3 b4"), member("d9"), after("b"), list("a1 b2 d9 a3 b4"), api.OK)
	for _, anchor := range []string{"a", "c", "d", "x"} {
		expectReplaced(t, l, member("d9"), edit.Place{Mode: edit.End, Anchor: anchor}, list("a1 b2 c3 d9"), api.OK)
	}
	// The chapter's example.
	l, _ = edit.Replace(list("a1 b2"), member("c3"), before("b"))
	expectList(t, l, api.OK, list("a1 c3 b2"), api.OK, "the example")
	expectReplaced(t, l, member("b9"), before("c"), list("a1 c3 b9"), api.OK)
}

// P10.2: the mode is judged before the anchor, and both also if a member is replaced.
func TestReplaceErrors(t *testing.T) {
	for _, l := range [][]api.Member{nil, list("a1"), list("a1 b2 a3")} {
		for _, m := range []api.Member{member("a9"), member("d9")} {
			for _, mode := range wrongModes {
				for _, anchor := range []string{"", "a", "d"} {
					expectReplaced(t, l, m, edit.Place{Mode: mode, Anchor: anchor}, l, api.ErrArg)
				}
			}
			// A member that is still to be inserted is no anchor.
			for _, anchor := range []string{"", "d", "x"} {
				expectReplaced(t, l, m, before(anchor), l, api.ErrAnchor)
				expectReplaced(t, l, m, after(anchor), l, api.ErrAnchor)
			}
		}
	}
	expectReplaced(t, nil, member("a9"), before("a"), nil, api.ErrAnchor)
}

// P10.2: a member is appended also if there is one with its name.
func TestAppend(t *testing.T) {
	expectAppended(t, nil, member("a1"), list("a1"))
	expectAppended(t, list("a1 b2"), member("c3"), list("a1 b2 c3"))
	expectAppended(t, list("a1 b2"), member("a3"), list("a1 b2 a3"))
	expectAppended(t, list("a1 b2"), member("b2"), list("a1 b2 b2"))
	expectAppended(t, nil, api.Member{}, []api.Member{{}})
}

// P10.3: the first member with the name is deleted.
func TestDelete(t *testing.T) {
	l := list("a1 b2 a3 c4")
	expectDeleted(t, l, "a", list("b2 a3 c4"), api.OK)
	expectDeleted(t, l, "b", list("a1 a3 c4"), api.OK)
	expectDeleted(t, l, "c", list("a1 b2 a3"), api.OK)
	expectDeleted(t, list("a1"), "a", nil, api.OK)
	expectDeleted(t, list("a1 a2"), "a", list("a2"), api.OK)
	for _, name := range []string{"d", "", "a1", "ab", "A"} {
		expectDeleted(t, l, name, l, api.ErrMember)
		expectDeleted(t, nil, name, nil, api.ErrMember)
	}
}

// P10.4: the place is one of the list without the member.
func TestMove(t *testing.T) {
	l := list("a1 b2 c3")
	expectMoved(t, l, "a", atEnd, list("b2 c3 a1"), api.OK)
	expectMoved(t, l, "a", before("b"), l, api.OK)
	expectMoved(t, l, "a", after("b"), list("b2 a1 c3"), api.OK)
	expectMoved(t, l, "a", before("c"), list("b2 a1 c3"), api.OK)
	expectMoved(t, l, "a", after("c"), list("b2 c3 a1"), api.OK)
	expectMoved(t, l, "b", atEnd, list("a1 c3 b2"), api.OK)
	expectMoved(t, l, "b", before("a"), list("b2 a1 c3"), api.OK)
	expectMoved(t, l, "b", after("c"), list("a1 c3 b2"), api.OK)
	expectMoved(t, l, "c", atEnd, l, api.OK)
	expectMoved(t, l, "c", before("a"), list("c3 a1 b2"), api.OK)
	expectMoved(t, l, "c", after("a"), list("a1 c3 b2"), api.OK)
	expectMoved(t, list("a1"), "a", atEnd, list("a1"), api.OK)
	for _, anchor := range []string{"a", "c", "x"} {
		expectMoved(t, l, "a", edit.Place{Mode: edit.End, Anchor: anchor}, list("b2 c3 a1"), api.OK)
	}
	// Of several members with a name, the first one is moved, or is the anchor among those that are left.
	expectMoved(t, list("a1 b2 a3 b4"), "a", atEnd, list("b2 a3 b4 a1"), api.OK)
	expectMoved(t, list("a1 b2 a3 b4"), "b", before("a"), list("b2 a1 a3 b4"), api.OK)
	expectMoved(t, list("a1 b2 a3 b4"), "a", after("b"), list("b2 a1 a3 b4"), api.OK)
	expectMoved(t, list("a1 b2 a3 b4"), "a", before("a"), list("b2 a1 a3 b4"), api.OK)
	expectMoved(t, list("a1 b2 a3 b4"), "a", after("a"), list("b2 a3 a1 b4"), api.OK)
}

// P10.4: the mode is judged before the member, and the member before the anchor.
func TestMoveErrors(t *testing.T) {
	for _, l := range [][]api.Member{nil, list("a1"), list("a1 b2 a3")} {
		for _, name := range []string{"a", "b", "d", ""} {
			for _, mode := range wrongModes {
				for _, anchor := range []string{"", "a", "d"} {
					expectMoved(t, l, name, edit.Place{Mode: mode, Anchor: anchor}, l, api.ErrArg)
				}
			}
		}
		for _, name := range []string{"d", "", "a1"} {
			for _, p := range []edit.Place{atEnd, before("a"), after("a"), before("d"), after("x"), before("")} {
				expectMoved(t, l, name, p, l, api.ErrMember)
			}
		}
	}
	l := list("a1 b2 a3")
	for _, anchor := range []string{"", "d", "a1"} {
		expectMoved(t, l, "a", before(anchor), l, api.ErrAnchor)
		expectMoved(t, l, "a", after(anchor), l, api.ErrAnchor)
	}
	// A member that is removed is no anchor.
	expectMoved(t, l, "b", before("b"), l, api.ErrAnchor)
	expectMoved(t, l, "b", after("b"), l, api.ErrAnchor)
	expectMoved(t, list("a1"), "a", before("a"), list("a1"), api.ErrAnchor)
}

// P10.5: the data of the first member with the name, and the names of all members.
func TestExtractAndList(t *testing.T) {
	l := append(list("a1 b2 a3"), api.Member{Name: "empty"}, api.Member{Data: []byte("no name")})
	expectExtracted(t, l, "a", []byte("a1"), api.OK)
	expectExtracted(t, l, "b", []byte("b2"), api.OK)
	expectExtracted(t, l, "empty", nil, api.OK)
	expectExtracted(t, l, "", []byte("no name"), api.OK)
	for _, name := range []string{"d", "a1", "A", "emp"} {
		expectExtracted(t, l, name, nil, api.ErrMember)
		expectExtracted(t, nil, name, nil, api.ErrMember)
	}
	if names := edit.List(l); !slices.Equal(names, []string{"a", "b", "a", "empty", ""}) {
		t.Errorf("List(%s) = %q", brief(l), names)
	}
	if names := edit.List(nil); len(names) != 0 {
		t.Errorf("List(nil) = %q", names)
	}
}

// placed is the list with m at the place, made member by member, and whether the place exists.
func placed(l []api.Member, m api.Member, p edit.Place) ([]api.Member, bool) {
	var made []api.Member
	exists := false
	for _, x := range l {
		here := !exists && p.Mode != edit.End && x.Name == p.Anchor
		if here && p.Mode == edit.Before {
			made = append(made, m)
		}
		made = append(made, x)
		if here && p.Mode == edit.After {
			made = append(made, m)
		}
		exists = exists || here
	}
	if p.Mode == edit.End {
		return append(made, m), true
	}
	return made, exists
}

// taken is the list without the first member with the name, and those members that were taken from it.
func taken(l []api.Member, name string) (rest, out []api.Member) {
	for _, x := range l {
		if len(out) == 0 && x.Name == name {
			out = append(out, x)
		} else {
			rest = append(rest, x)
		}
	}
	return rest, out
}

// replaced is the list with m in place of the first member with its name.
func replaced(l []api.Member, m api.Member) []api.Member {
	var made []api.Member
	done := false
	for _, x := range l {
		if !done && x.Name == m.Name {
			x, done = m, true
		}
		made = append(made, x)
	}
	return made
}

func isMode(mode int) bool {
	return mode == edit.End || mode == edit.Before || mode == edit.After
}

func expectReplacedAsDefined(t *testing.T, l []api.Member, m api.Member, p edit.Place) {
	t.Helper()
	want, exists := placed(l, m, p)
	_, out := taken(l, m.Name)
	switch {
	case !isMode(p.Mode):
		expectReplaced(t, l, m, p, l, api.ErrArg)
	case !exists:
		expectReplaced(t, l, m, p, l, api.ErrAnchor)
	case len(out) > 0:
		expectReplaced(t, l, m, p, replaced(l, m), api.OK)
	default:
		expectReplaced(t, l, m, p, want, api.OK)
	}
}

func expectMovedAsDefined(t *testing.T, l []api.Member, name string, p edit.Place) {
	t.Helper()
	rest, out := taken(l, name)
	switch {
	case !isMode(p.Mode):
		expectMoved(t, l, name, p, l, api.ErrArg)
	case len(out) == 0:
		expectMoved(t, l, name, p, l, api.ErrMember)
	default:
		want, exists := placed(rest, out[0], p)
		if exists {
			expectMoved(t, l, name, p, want, api.OK)
		} else {
			expectMoved(t, l, name, p, l, api.ErrAnchor)
		}
	}
}

// expectWithoutPlaceAsDefined checks the functions that have a name, but no place.
func expectWithoutPlaceAsDefined(t *testing.T, l []api.Member, name string) {
	t.Helper()
	rest, out := taken(l, name)
	if len(out) == 0 {
		expectFound(t, l, name, -1)
		expectDeleted(t, l, name, l, api.ErrMember)
		expectExtracted(t, l, name, nil, api.ErrMember)
		return
	}
	if i := edit.Find(l, name); i < 0 || i >= len(l) || !sameMember(l[i], out[0]) {
		t.Errorf("Find(%s, %q) = %d", brief(l), name, i)
	}
	expectDeleted(t, l, name, rest, api.OK)
	expectExtracted(t, l, name, out[0].Data, api.OK)
}

// eachList visits all lists of up to so many members with the names, each of which has a number of its own.
func eachList(length int, names []string, visit func(l []api.Member)) {
	var extend func(l []api.Member)
	extend = func(l []api.Member) {
		visit(l)
		if len(l) == length {
			return
		}
		for _, name := range names {
			extend(append(slices.Clone(l), member(name+strconv.Itoa(len(l)+1))))
		}
	}
	extend(nil)
}

// P10.1 to P10.5: all lists of up to four members with four names, all names and all places.
func TestEveryList(t *testing.T) {
	names := []string{"a", "b", "ab", ""}
	asked := append(slices.Clone(names), "x")
	modes := append([]int{edit.End, edit.Before, edit.After}, wrongModes[:2]...)
	eachList(4, names, func(l []api.Member) {
		want := []string{}
		for _, m := range l {
			want = append(want, m.Name)
		}
		if got := edit.List(l); !slices.Equal(got, want) {
			t.Errorf("List(%s) = %q; want %q", brief(l), got, want)
		}
		for _, name := range asked {
			m := member(name + "9")
			expectAppended(t, l, m, append(slices.Clone(l), m))
			expectWithoutPlaceAsDefined(t, l, name)
			for _, mode := range modes {
				for _, anchor := range asked {
					p := edit.Place{Mode: mode, Anchor: anchor}
					expectReplacedAsDefined(t, l, m, p)
					expectMovedAsDefined(t, l, name, p)
				}
			}
		}
	})
}

// anyNames are names that differ, also such as no archive can have.
func anyNames() []string {
	names := []string{"", "//", "/0", "aa", "a ", " a", "a/", "a\n", "a\x00", "a\x00b", "\u00e9", "e\u0301", "a.o", "A.o", "a.O", "../a.o"}
	for c := range 256 {
		names = append(names, string([]byte{byte(c)}))
	}
	for _, length := range []int{15, 16, 17, 254, 255, 256, 70000} {
		name := strings.Repeat("n", length)
		names = append(names, name, name[1:]+"m", "m"+name[1:])
	}
	return names
}

// P10.1 to P10.5: names are equal if all their bytes are.
func TestAnyNames(t *testing.T) {
	names := anyNames()
	var l []api.Member
	for i, name := range names {
		l = append(l, api.Member{Name: name, Time: i, Data: []byte(strconv.Itoa(i))})
	}
	if got := edit.List(l); !slices.Equal(got, names) {
		t.Errorf("List has the names %.999q", got)
	}
	for i, name := range names {
		m := api.Member{Name: name, Time: -1, Data: []byte("new")}
		without := slices.Concat(l[:i], l[i+1:])
		expectFound(t, l, name, i)
		expectFound(t, without, name, -1)
		expectExtracted(t, l, name, l[i].Data, api.OK)
		expectDeleted(t, l, name, without, api.OK)
		expectDeleted(t, without, name, without, api.ErrMember)
		expectReplaced(t, l, m, atEnd, slices.Concat(l[:i], []api.Member{m}, l[i+1:]), api.OK)
		expectReplaced(t, without, m, atEnd, append(slices.Clone(without), m), api.OK)
		expectReplaced(t, without, m, after(name), without, api.ErrAnchor)
		expectMoved(t, l, name, atEnd, append(slices.Clone(without), l[i]), api.OK)
		other := api.Member{Name: "a name that is not there"}
		expectReplaced(t, l, other, before(name), slices.Concat(l[:i], []api.Member{other}, l[i:]), api.OK)
		expectReplaced(t, l, other, after(name), slices.Concat(l[:i+1], []api.Member{other}, l[i+1:]), api.OK)
	}
}

// P10.2 to P10.5: numbers and data of members are kept, also those that do not fit an archive.
func TestAnyMembers(t *testing.T) {
	var every []byte
	for c := range 256 {
		every = append(every, byte(c))
	}
	l := []api.Member{
		{Name: "low", Time: math.MinInt, UID: -1, GID: math.MinInt, Mode: -8},
		{Name: "high", Time: math.MaxInt, UID: 1 << 40, GID: math.MaxInt, Mode: 1 << 62, Data: []byte{}},
		{Name: "every", Mode: 0o100644, Data: every},
		{Name: "large", UID: 1, Data: bytes.Repeat(every, 5000)},
	}
	for _, m := range l {
		expectExtracted(t, l, m.Name, m.Data, api.OK)
		changed := api.Member{Name: m.Name, Time: 7, Data: []byte("changed")}
		for _, name := range []string{"low", "high", "every", "large", "new"} {
			expectReplacedAsDefined(t, l, changed, after(name))
			expectReplacedAsDefined(t, l, api.Member{Name: name, Time: m.Time, UID: m.UID, GID: m.GID, Mode: m.Mode, Data: m.Data}, before(m.Name))
			expectMovedAsDefined(t, l, m.Name, before(name))
			expectWithoutPlaceAsDefined(t, l, name)
		}
		expectAppended(t, l, m, append(slices.Clone(l), m))
	}
}

// P10.1 to P10.5: long lists, with a change at their beginning, in their middle and at their end.
func TestLongLists(t *testing.T) {
	var l []api.Member
	for i := range 10000 {
		l = append(l, api.Member{Name: "m" + strconv.Itoa(i), Data: []byte("x")})
	}
	for _, i := range []int{0, 1, 5000, 9998, 9999} {
		for _, j := range []int{0, 4999, 5001, 9999} {
			name, anchor := l[i].Name, l[j].Name
			expectWithoutPlaceAsDefined(t, l, name)
			for _, p := range []edit.Place{atEnd, before(anchor), after(anchor)} {
				expectMovedAsDefined(t, l, name, p)
				expectReplacedAsDefined(t, l, api.Member{Name: name, Time: 9}, p)
				expectReplacedAsDefined(t, l, api.Member{Name: "new", Time: 9}, p)
			}
		}
	}
}

// arguments are those of a call, and the memory that they have.
type arguments struct {
	l []api.Member
	m api.Member
}

// newArguments makes arguments with unused capacity behind all slices.
func newArguments(m string) arguments {
	l := append(list("a1 b2 a3 c4"), member("unused5"))
	for i := range l {
		l[i].Data = append(l[i].Data, "unused"...)[:len(l[i].Data)]
	}
	x := arguments{l[:4], member(m)}
	x.m.Data = append(x.m.Data, "unused"...)[:len(x.m.Data)]
	return x
}

// describe tells all of a list, with what lies behind its slices.
func describe(l []api.Member) string {
	var text strings.Builder
	for _, m := range l[:cap(l)] {
		fmt.Fprintf(&text, "%+v %q\n", m, m.Data[:cap(m.Data)])
	}
	return text.String()
}

func (x arguments) describe() string {
	return describe(x.l) + describe([]api.Member{x.m})
}

// edits are calls with results that are lists, each of the ways they can succeed and fail.
func edits() map[string]func(x arguments) []api.Member {
	first := func(l []api.Member, _ api.Errno) []api.Member { return l }
	calls := map[string]func(x arguments) []api.Member{
		"Append": func(x arguments) []api.Member { return edit.Append(x.l, x.m) },
	}
	for _, mode := range []int{edit.End, edit.Before, edit.After, 3, -1} {
		for _, anchor := range []string{"a", "b", "c", "missing"} {
			p := edit.Place{Mode: mode, Anchor: anchor}
			calls["Replace at "+brief(p)] = func(x arguments) []api.Member { return first(edit.Replace(x.l, x.m, p)) }
			for _, name := range []string{"a", "b", "c", "missing"} {
				calls["Move "+name+" to "+brief(p)] = func(x arguments) []api.Member { return first(edit.Move(x.l, name, p)) }
			}
		}
	}
	for _, name := range []string{"a", "b", "c", "missing"} {
		calls["Delete "+name] = func(x arguments) []api.Member { return first(edit.Delete(x.l, name)) }
	}
	return calls
}

// P10.6: neither the list nor the member changes, nor what lies behind them.
func TestArgumentsUnchanged(t *testing.T) {
	for _, m := range []string{"a9", "c9", "d9"} {
		want := newArguments(m).describe()
		for call, run := range edits() {
			x := newArguments(m)
			run(x)
			if got := x.describe(); got != want {
				t.Errorf("%s changed its arguments from %s to %s", call, want, got)
			}
		}
		x := newArguments(m)
		edit.Find(x.l, "c")
		edit.Extract(x.l, "c")
		edit.Extract(x.l, "missing")
		edit.List(x.l)
		if got := x.describe(); got != want {
			t.Errorf("Find, Extract or List changed its arguments from %s to %s", want, got)
		}
	}
}

// fill overwrites the bytes, and those behind them that belong to the same memory.
func fill(b []byte) {
	b = b[:cap(b)]
	copy(b, bytes.Repeat([]byte{'#'}, len(b)))
}

// overwrite changes a list, all its data, and what lies behind them.
func overwrite(l []api.Member) {
	l = l[:cap(l)]
	for i := range l {
		fill(l[i].Data)
		l[i] = api.Member{Name: "overwritten"}
	}
}

// expectApart checks that no member of a list changes with the data of another one, or with what lies behind it.
func expectApart(t *testing.T, call string, run func() []api.Member) {
	t.Helper()
	want := run()
	for i := range want {
		l := run()
		fill(l[i].Data)
		l[i] = want[i]
		if !sameList(l, want) {
			t.Errorf("%s: after a change of member %d, the list is %s; want %s", call, i, brief(l), brief(want))
		}
	}
}

// P10.6: a list that results changes neither with the arguments nor with another result or another part of it, also if it is unchanged.
func TestResultsAreNew(t *testing.T) {
	for _, m := range []string{"a9", "c9", "d9"} {
		for call, run := range edits() {
			want := run(newArguments(m))
			x := newArguments(m)
			got := run(x)
			overwrite(x.l)
			fill(x.m.Data)
			expectList(t, got, api.OK, want, api.OK, call, "with arguments that change")

			x = newArguments(m)
			unchanged := x.describe()
			got = run(x)
			overwrite(run(x))
			expectList(t, got, api.OK, want, api.OK, call, "with another result that changes")
			if after := x.describe(); after != unchanged {
				t.Errorf("after changes of the result of %s, the arguments are %s; want %s", call, after, unchanged)
			}
			expectApart(t, call, func() []api.Member { return run(newArguments(m)) })
		}
	}
}

// P10.6: members whose data is the same memory have data of their own in the result.
func TestSharedData(t *testing.T) {
	for call, run := range edits() {
		expectApart(t, call+" with shared data", func() []api.Member {
			data := []byte("0123456789")
			l := []api.Member{{Name: "a", Data: data}, {Name: "b", Data: data[:4]}, {Name: "a", Data: data[4:]}, {Name: "c", Data: data}}
			return run(arguments{l, api.Member{Name: "d", Data: data[2:6]}})
		})
	}
}

// P10.6: the results of Extract and List are new too.
func TestExtractedAndListedAreNew(t *testing.T) {
	x := newArguments("a9")
	want := x.describe()
	data, _ := edit.Extract(x.l, "b")
	again, _ := edit.Extract(x.l, "b")
	fill(again)
	names, others := edit.List(x.l), edit.List(x.l)
	clear(others[:cap(others)])
	if got := x.describe(); got != want {
		t.Errorf("after changes of results, the arguments are %s; want %s", got, want)
	}
	overwrite(x.l)
	if string(data) != "b2" || !slices.Equal(names, []string{"a", "b", "a", "c"}) {
		t.Errorf("after changes of the arguments and of other results, Extract is %q, and List is %q", data, names)
	}
}
