package wanted_test

import (
	"fmt"
	"slices"
	"strings"
	"testing"

	"arlink/api"
	"arlink/symtab"
	"arlink/wanted"
)

// expect checks what a call results in.
func expect[E comparable](t *testing.T, got, want E, call ...any) {
	t.Helper()
	if got != want {
		t.Errorf("%.999s = %.99q; want %.99q", fmt.Sprintf("%q", call), fmt.Sprint(got), fmt.Sprint(want))
	}
}

// expectNames checks a list of names; nil and empty lists are the same.
func expectNames(t *testing.T, got, want []string, call ...any) {
	t.Helper()
	if !slices.Equal(got, want) {
		t.Errorf("%.999s = %.999s; want %.999s", fmt.Sprintf("%q", call), fmt.Sprintf("%q", got), fmt.Sprintf("%q", want))
	}
}

// expectTaken checks what Take results in.
func expectTaken(t *testing.T, x *wanted.List, want string, found bool, call ...any) {
	t.Helper()
	name, ok := x.Take()
	expect(t, name, want, "Take", call)
	expect(t, ok, found, "Take found", call)
}

// takeAll takes names until none is waiting. It tries one more than there should be, and no more, lest a broken worklist never ends.
func takeAll(x *wanted.List) []string {
	var names []string
	for range x.Len() + 1 {
		name, ok := x.Take()
		if !ok {
			break
		}
		names = append(names, name)
	}
	return names
}

// model is a worklist as the chapter defines it: the names that were ever added, and those that are waiting, in ascending order.
type model struct {
	added   map[string]bool
	waiting []string
}

func (m *model) add(names ...string) int {
	n := 0
	for _, name := range names {
		if m.added[name] {
			continue
		}
		if m.added == nil {
			m.added = map[string]bool{}
		}
		m.added[name] = true
		at, _ := slices.BinarySearch(m.waiting, name)
		m.waiting = slices.Insert(m.waiting, at, name)
		n++
	}
	return n
}

func (m *model) take() (string, bool) {
	if len(m.waiting) == 0 {
		return "", false
	}
	name := m.waiting[0]
	m.waiting = m.waiting[1:]
	return name, true
}

// step is a call of Take, or one of Add with the names.
type step struct {
	take bool
	add  []string
}

// follow does a step with the worklist and with the model, and checks all that the worklist tells of itself and of the names.
func follow(t *testing.T, x *wanted.List, m *model, s step, names []string, call ...any) {
	t.Helper()
	if s.take {
		name, found := m.take()
		expectTaken(t, x, name, found, call...)
	} else {
		expect(t, x.Add(s.add...), m.add(s.add...), "Add", s.add, call)
	}
	expect(t, x.Len(), len(m.waiting), "Len", s, call)
	for _, name := range names {
		expect(t, x.Seen(name), m.added[name], "Seen", name, s, call)
	}
}

// P15.1: the example of the chapter.
func TestWorklistExample(t *testing.T) {
	var x wanted.List
	expect(t, x.Add("b", "a", "b"), 2, "Add b a b")
	expect(t, x.Len(), 2, "Len")
	expectTaken(t, &x, "a", true)
	expectTaken(t, &x, "b", true)
	expectTaken(t, &x, "", false)
	expect(t, x.Add("a"), 0, "Add a again")
	expect(t, x.Len(), 0, "Len")
	expectTaken(t, &x, "", false)
	expect(t, x.Seen("a"), true, "Seen a")
	expect(t, x.Seen("c"), false, "Seen c")
}

// P15.1: the worklist to which no name was added.
func TestEmptyWorklist(t *testing.T) {
	var zero wanted.List
	for _, x := range []*wanted.List{&zero, new(wanted.List), {}} {
		for range 3 {
			expect(t, x.Len(), 0, "Len")
			expect(t, x.Seen(""), false, "Seen the empty name")
			expect(t, x.Seen("a"), false, "Seen a")
			expectTaken(t, x, "", false)
			expect(t, x.Add(), 0, "Add nothing")
			expect(t, x.Add([]string{}...), 0, "Add an empty list")
		}
		expect(t, x.Add("a"), 1, "Add a")
		expectTaken(t, x, "a", true)
	}
}

// A nil List takes up no name, and tells nothing.
func TestNilWorklist(t *testing.T) {
	var x *wanted.List
	for range 3 {
		expect(t, x.Add(), 0, "Add nothing")
		expect(t, x.Add("a", "b"), 0, "Add a b")
		expect(t, x.Add(""), 0, "Add the empty name")
		expect(t, x.Len(), 0, "Len")
		expect(t, x.Seen("a"), false, "Seen a")
		expect(t, x.Seen(""), false, "Seen the empty name")
		expectTaken(t, x, "", false)
	}
}

// P15.1: the empty name is a name; its presence is told from its absence.
func TestEmptyName(t *testing.T) {
	var x wanted.List
	expect(t, x.Add("a", "", "", "b"), 3, "Add")
	expect(t, x.Seen(""), true, "Seen the empty name")
	expectTaken(t, &x, "", true)
	expect(t, x.Add(""), 0, "Add the empty name again")
	expect(t, x.Len(), 2, "Len")
	expectNames(t, takeAll(&x), []string{"a", "b"}, "Take")
	expectTaken(t, &x, "", false)
}

// P15.1: all sequences of steps with up to three names.
func TestSequencesOfSteps(t *testing.T) {
	steps := []step{
		{take: true}, {}, {add: []string{"a"}}, {add: []string{"b"}}, {add: []string{"c"}},
		{add: []string{"b", "a"}}, {add: []string{"b", "b"}}, {add: []string{"c", "a", "c", "b"}},
	}
	const length = 5
	number := 1
	for range length {
		number *= len(steps)
	}
	for n := range number {
		var x wanted.List
		var m model
		var done []step
		for rest, i := n, 0; i < length; rest, i = rest/len(steps), i+1 {
			s := steps[rest%len(steps)]
			done = append(done, s)
			follow(t, &x, &m, s, []string{"", "a", "b", "c", "d", "ab"}, done)
		}
		expectNames(t, takeAll(&x), m.waiting, "Take", done)
	}
}

// orders are all orders of the names.
func orders(names []string) [][]string {
	if len(names) == 0 {
		return [][]string{nil}
	}
	var all [][]string
	for i, name := range names {
		rest := slices.Concat(names[:i], names[i+1:])
		for _, l := range orders(rest) {
			all = append(all, append([]string{name}, l...))
		}
	}
	return all
}

// P15.1: names are taken in ascending order, in whichever order they are added, together or one by one.
func TestOrders(t *testing.T) {
	names := []string{"", "a", "a\x00", "aa", "b", "ba", "\xff"}
	for n := range len(names) + 1 {
		for _, l := range orders(names[:n]) {
			var x, y wanted.List
			expect(t, x.Add(l...), n, "Add", l)
			expect(t, x.Len(), n, "Len", l)
			expectNames(t, takeAll(&x), names[:n], "Take", l)
			for i, name := range l {
				expect(t, y.Add(name), 1, "Add", name)
				expect(t, y.Len(), i+1, "Len", l)
			}
			expectNames(t, takeAll(&y), names[:n], "Take", l)
			expect(t, x.Add(l...)+y.Add(l...), 0, "Add again", l)
		}
	}
}

// P15.1: names that are added between those that are taken.
func TestTakeBetween(t *testing.T) {
	var x wanted.List
	expect(t, x.Add("m", "f"), 2, "Add m f")
	expectTaken(t, &x, "f", true)
	expect(t, x.Add("z", "a", "f", "n"), 3, "Add z a f n")
	expectTaken(t, &x, "a", true)
	expectTaken(t, &x, "m", true)
	expect(t, x.Add("b", "m"), 1, "Add b m")
	expect(t, x.Len(), 3, "Len")
	expectNames(t, takeAll(&x), []string{"b", "n", "z"}, "Take")
	expect(t, x.Add("a", "b", "f", "m", "n", "z"), 0, "Add all again")
	expect(t, x.Len(), 0, "Len")
	expect(t, x.Add("c"), 1, "Add c")
	expectNames(t, takeAll(&x), []string{"c"}, "Take")
}

// P15.1: a name that is taken has still been seen; asking adds nothing.
func TestSeen(t *testing.T) {
	var x wanted.List
	for _, name := range []string{"", "f", "F", "f\x00", "fo", "foo", " foo"} {
		expect(t, x.Seen(name), false, "Seen before Add", name)
		expect(t, x.Seen(name), false, "Seen before Add", name)
		expect(t, x.Add(name), 1, "Add", name)
		expect(t, x.Seen(name), true, "Seen after Add", name)
		expectTaken(t, &x, name, true)
		expect(t, x.Seen(name), true, "Seen after Take", name)
		expect(t, x.Add(name, name), 0, "Add again", name)
		expect(t, x.Seen(name), true, "Seen after Add again", name)
	}
}

// someNames are in the ascending order of their bytes.
func someNames() []string {
	return []string{
		"", "\x00", "\x00\x00", "\x01", "\x01\x01", "\t", "\n", " ", "  ", " f", "%", "-", ".", "/", "//", "0", "00", "1", "10", "2", "9", "F", "FF", "F_", "G", "_", "__f",
		"f", "f\x00", "f\x01", "f f", "f.", "f0", "fF", "ff", "ff\x7f", "ff\x80", "fg", "f\xc3", "fé", "f\xff", "g", "~", "\x7f", "\x80", "\xc3", "\xc3\xa8", "é", "éé",
		"日本", "日本語", "\xff", "\xff\x01", "\xff\xff",
	}
}

// P15.1: the order is that of the bytes, not of runes, of lengths or of letters regardless of case.
func TestBytesAreOrdered(t *testing.T) {
	names := someNames()
	for step := 1; step < len(names); step++ {
		var x wanted.List
		added := map[string]bool{}
		for i := range names {
			name := names[i*step%len(names)]
			if n := x.Add(name); (n == 1) == added[name] {
				t.Errorf("Add %q = %d", name, n)
			}
			added[name] = true
		}
		// A step that has a factor in common with the number of names does not visit all of them.
		var want []string
		for _, name := range names {
			if added[name] {
				want = append(want, name)
			}
		}
		expect(t, x.Len(), len(want), "Len", step)
		expectNames(t, takeAll(&x), want, "Take", step)
	}
}

// P15.1: names of all bytes, of pairs of them, and of many lengths.
func TestNamesOfAllKinds(t *testing.T) {
	var names []string
	for b := range 256 {
		names = append(names, string([]byte{byte(b)}))
		for c := 0; c < 256; c += 17 {
			names = append(names, string([]byte{byte(b), byte(c)}))
		}
	}
	slices.Reverse(names)
	for n := 2; n <= 1000; n++ {
		names = append(names, strings.Repeat("n", n)+"\x01")
	}
	var x wanted.List
	expect(t, x.Add(names...), len(names), "Add")
	slices.Sort(names)
	for i, name := range names {
		expect(t, x.Len(), len(names)-i, "Len", name)
		expectTaken(t, &x, name, true)
		expect(t, x.Add(name), 0, "Add again", name)
	}
	expectTaken(t, &x, "", false)
}

// numbered is a name that is told by its number, and whose order is that of the numbers.
func numbered(n int) string {
	return fmt.Sprintf("f%06d", n)
}

// P15.1: many names, in ascending order, in descending order, and in none.
func TestManyNames(t *testing.T) {
	const many = 1 << 16
	var ascending []string
	for n := range many {
		ascending = append(ascending, numbered(n))
	}
	for _, at := range []func(n int) int{
		func(n int) int { return n },
		func(n int) int { return many - 1 - n },
		func(n int) int { return n * 40503 % many },
	} {
		var x wanted.List
		for n := range many {
			if x.Add(numbered(at(n))) != 1 {
				t.Fatalf("%s is not added", numbered(at(n)))
			}
		}
		expect(t, x.Add(ascending...), 0, "Add all again")
		expect(t, x.Len(), many, "Len")
		expectNames(t, takeAll(&x), ascending, "Take")
		expect(t, x.Len(), 0, "Len")
	}
}

// P15.1: a long run of steps in no order, in which names are added and taken, and added again.
func TestLongRun(t *testing.T) {
	for _, kinds := range []int{10, 300, 20000} {
		var x wanted.List
		var m model
		number := uint32(kinds)
		next := func(n int) int {
			number = number*1664525 + 1013904223
			return int(number>>8) % n
		}
		for i := range 30000 {
			s := step{take: next(3) == 0}
			for range next(4) {
				s.add = append(s.add, numbered(next(kinds)))
			}
			follow(t, &x, &m, s, []string{numbered(next(kinds)), ""}, i)
		}
		expectNames(t, takeAll(&x), m.waiting, "Take", kinds)
	}
}

// P15.1: worklists do not share their names.
func TestWorklistsAreSeparate(t *testing.T) {
	var x, y wanted.List
	expect(t, x.Add("a", "b"), 2, "Add")
	expect(t, y.Seen("a"), false, "Seen in another list")
	expect(t, y.Len(), 0, "Len of another list")
	expect(t, y.Add("b", "c"), 2, "Add to another list")
	expectNames(t, takeAll(&x), []string{"a", "b"}, "Take")
	expectNames(t, takeAll(&y), []string{"b", "c"}, "Take from another list")
}

func symbol(name string, binding int) api.Sym {
	s := api.Sym{Name: name, Bind: binding}
	switch binding {
	case api.Strong, api.Weak:
		s.Size = 8
	case api.Common:
		s.Size, s.Align = 4, 4
	}
	return s
}

func object(syms ...api.Sym) api.Object {
	return api.Object{Syms: syms}
}

// loaded is the table into which the objects were loaded.
func loaded(objects []api.Object) *symtab.Table {
	var t symtab.Table
	for _, o := range objects {
		t.Load(o)
	}
	return &t
}

// isWanted tells whether a strong reference to the name, and no strong or weak definition, is among the symbols of the objects.
func isWanted(objects []api.Object, name string) bool {
	referred, defined := false, false
	for _, o := range objects {
		for _, s := range o.Syms {
			if s.Name == name {
				referred = referred || s.Bind == api.Undef
				defined = defined || s.Bind == api.Strong || s.Bind == api.Weak
			}
		}
	}
	return referred && !defined
}

// firstWanted is the first of the names that is wanted after the objects.
func firstWanted(objects []api.Object, defs []string) (string, bool) {
	for _, name := range defs {
		if isWanted(objects, name) {
			return name, true
		}
	}
	return "", false
}

// expectLoadable checks what Loadable results in.
func expectLoadable(t *testing.T, x *symtab.Table, defs []string, want string, found bool, call ...any) {
	t.Helper()
	name, ok := wanted.Loadable(x, defs)
	expect(t, name, want, "Loadable", defs, call)
	expect(t, ok, found, "Loadable found", defs, call)
}

// bindings are all bindings of symbols; 0 is that of none.
func bindings() []int {
	return []int{0, api.Strong, api.Weak, api.Common, api.Undef, api.WeakUndef}
}

// objectsWith are all objects that have a symbol of any binding, or none, with each of the names.
func objectsWith(names ...string) []api.Object {
	all := []api.Object{{}}
	for _, name := range names {
		var next []api.Object
		for _, o := range all {
			for _, binding := range bindings() {
				syms := slices.Clone(o.Syms)
				if binding != 0 {
					syms = append(syms, symbol(name, binding))
				}
				next = append(next, object(syms...))
			}
		}
		all = next
	}
	return all
}

// sequences are all sequences of up to n of the elements, which may be repeated.
func sequences[E any](n int, elements ...E) [][]E {
	all := [][]E{nil}
	last := all
	for range n {
		var next [][]E
		for _, l := range last {
			for _, e := range elements {
				next = append(next, append(slices.Clone(l), e))
			}
		}
		all = append(all, next...)
		last = next
	}
	return all
}

// P15.2: the first name of the definitions that is wanted, which need not be the least one.
func TestLoadableExamples(t *testing.T) {
	x := loaded([]api.Object{
		object(symbol("a", api.Undef), symbol("b", api.Strong), symbol("c", api.Common), symbol("d", api.WeakUndef), symbol("e", api.Weak)),
		object(symbol("f", api.Undef), symbol("b", api.Undef), symbol("c", api.Undef), symbol("e", api.Undef), symbol("g", api.Undef)),
		object(symbol("g", api.Weak), symbol("z", api.Undef)),
	})
	for _, c := range []struct {
		defs  []string
		want  string
		found bool
	}{
		{nil, "", false},
		{[]string{}, "", false},
		{[]string{"a"}, "a", true},
		{[]string{"b"}, "", false},
		{[]string{"c"}, "c", true},
		{[]string{"d"}, "", false},
		{[]string{"e"}, "", false},
		{[]string{"f"}, "f", true},
		{[]string{"g"}, "", false},
		{[]string{"h"}, "", false},
		{[]string{""}, "", false},
		{[]string{"A"}, "", false},
		{[]string{"aa", "a\x00", " a"}, "", false},
		{[]string{"z", "f", "c", "a"}, "z", true},
		{[]string{"a", "c", "f", "z"}, "a", true},
		{[]string{"f", "a", "f"}, "f", true},
		{[]string{"", "b", "d", "e", "g", "h", "f", "a"}, "f", true},
		{[]string{"b", "b", "d", "e", "g", "h"}, "", false},
		{[]string{"b", "b", "c", "c"}, "c", true},
	} {
		expectLoadable(t, x, c.defs, c.want, c.found)
	}
}

// P15.2: in a table into which nothing was loaded, and in a nil one, no name is wanted.
func TestLoadableForNoTable(t *testing.T) {
	for _, x := range []*symtab.Table{nil, {}, loaded([]api.Object{{}})} {
		for _, defs := range sequences(3, "f", "g", "") {
			expectLoadable(t, x, defs, "", false)
		}
		expectLoadable(t, x, someNames(), "", false)
	}
}

// P15.2: all sequences of objects with two names, and all lists of definitions.
func TestLoadableForSequences(t *testing.T) {
	definitions := sequences(3, "f", "g", "h")
	for _, objects := range slices.Concat(sequences(4, objectsWith("f")...), sequences(2, objectsWith("g", "f")...)) {
		x := loaded(objects)
		for _, defs := range definitions {
			name, found := firstWanted(objects, defs)
			expectLoadable(t, x, defs, name, found, objects)
		}
	}
}

// P15.2: what is loadable changes as objects are loaded.
func TestLoadableAsObjectsAreLoaded(t *testing.T) {
	var x symtab.Table
	defs := []string{"f", "g"}
	for _, s := range []struct {
		o     api.Object
		want  string
		found bool
	}{
		{object(symbol("main", api.Strong), symbol("f", api.WeakUndef)), "", false},
		{object(symbol("g", api.Undef)), "g", true},
		{object(symbol("f", api.Undef)), "f", true},
		{object(symbol("f", api.Common)), "f", true},
		{object(symbol("f", api.Weak)), "g", true},
		{object(symbol("f", api.Undef)), "g", true},
		{object(symbol("g", api.Strong), symbol("h", api.Undef)), "", false},
		{object(symbol("g", api.Undef), symbol("f", api.Strong)), "", false},
	} {
		x.Load(s.o)
		expectLoadable(t, &x, defs, s.want, s.found, s.o)
		expectLoadable(t, &x, defs, s.want, s.found, s.o)
	}
	expectLoadable(t, &x, []string{"h"}, "h", true)
}

// P15.2: each name of many, alone and behind all of those that are not wanted.
func TestLoadableAmongMany(t *testing.T) {
	const many = 3000
	all := bindings()[1:]
	var objects []api.Object
	var names, idle []string
	for n := range many {
		name, binding := numbered(n), all[n%len(all)]
		objects = append(objects, object(symbol(name, binding)))
		names = append(names, name)
		if binding != api.Undef {
			idle = append(idle, name)
		}
	}
	x := loaded(objects)
	expectLoadable(t, x, idle, "", false)
	for n, name := range names {
		if all[n%len(all)] == api.Undef {
			expectLoadable(t, x, []string{name}, name, true)
		} else {
			expectLoadable(t, x, []string{name}, "", false)
		}
	}
	expectLoadable(t, x, append(slices.Clone(idle), numbered(many-2), numbered(3)), numbered(many-2), true)
}

// P15.2: names of all kinds that a symbol can have.
func TestLoadableNames(t *testing.T) {
	for _, name := range append(someNames(), strings.Repeat("n", 255)) {
		if name == "" || strings.Contains(name, "\x00") {
			continue
		}
		x := loaded([]api.Object{object(symbol(name, api.Undef))})
		for _, other := range someNames() {
			if other != name {
				expectLoadable(t, x, []string{other}, "", false, name)
				expectLoadable(t, x, []string{other, name}, name, true)
			}
		}
	}
}

// roomy is the list with unused memory behind it.
func roomy(l []string) []string {
	return append(slices.Clone(l), "unused", "a", "")[:len(l)]
}

// whole is a list with what lies behind it.
func whole(l []string) []string {
	return slices.Clone(l[:cap(l)])
}

// overwrite changes the memory of a list, with what lies behind it.
func overwrite(l []string) {
	l = l[:cap(l)]
	for i := range l {
		l[i] = "overwritten"
	}
}

// P15.3: names do not change when they are added and taken, nor the worklist when they change later.
func TestNamesAreNotModified(t *testing.T) {
	for _, l := range sequences(5, "c", "a", "b") {
		names := roomy(l)
		before := whole(names)
		var x wanted.List
		var m model
		expect(t, x.Add(names...), m.add(l...), "Add", l)
		expectNames(t, whole(names), before, "the names after Add", l)
		first, found := m.take()
		expectTaken(t, &x, first, found, l)
		expect(t, x.Add("aa", "d"), m.add("aa", "d"), "Add more", l)
		expectNames(t, whole(names), before, "the names after more steps", l)
		overwrite(names)
		expect(t, x.Seen("overwritten"), false, "Seen")
		expect(t, x.Add(l...), 0, "Add again", l)
		expectNames(t, takeAll(&x), m.waiting, "Take", l)
	}
}

// P15.3: neither the table nor the definitions change.
func TestLoadableModifiesNothing(t *testing.T) {
	for _, objects := range sequences(2, objectsWith("f", "g")...) {
		x := loaded(objects)
		for _, l := range sequences(2, "g", "f", "h", "") {
			defs := roomy(l)
			before := whole(defs)
			wanted.Loadable(x, defs)
			expectNames(t, whole(defs), before, "the definitions after Loadable", l)
		}
		want := loaded(objects)
		expectNames(t, x.Names(), want.Names(), "Names after Loadable")
		expect(t, x.Units(), len(objects), "Units after Loadable")
		expect(t, fmt.Sprintf("%+v", x.Resolved()), fmt.Sprintf("%+v", want.Resolved()), "Resolved after Loadable")
		for _, name := range []string{"f", "g", "h", ""} {
			expect(t, fmt.Sprintf("%+v", x.State(name)), fmt.Sprintf("%+v", want.State(name)), "State after Loadable", name)
		}
		expect(t, x.Load(object()), len(objects), "Load after Loadable")
	}
}

// P15.2: nothing is promised for tables of objects that are not valid, but no call panics.
func TestLoadableForInvalidObjects(t *testing.T) {
	var x symtab.Table
	for _, binding := range []int{-1 << 63, -1, 0, 6, 255, 1<<63 - 1} {
		for _, name := range []string{"", "f", "f\x00", strings.Repeat("n", 256)} {
			s := api.Sym{Name: name, Bind: binding, Size: -1, Align: 3}
			x.Load(object(s, s, symbol("g", api.Common)))
			wanted.Loadable(&x, []string{name, "g", name})
		}
	}
	expectLoadable(t, &x, []string{"g"}, "", false)
}
