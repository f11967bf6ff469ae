package symtab_test

import (
	"fmt"
	"slices"
	"strings"
	"testing"

	"arlink/api"
	"arlink/bind"
	"arlink/objsym"
	"arlink/symtab"
)

func strong(name string, size int) api.Sym {
	return api.Sym{Name: name, Bind: api.Strong, Size: size}
}

func weak(name string, size int) api.Sym {
	return api.Sym{Name: name, Bind: api.Weak, Size: size}
}

func common(name string, size, align int) api.Sym {
	return api.Sym{Name: name, Bind: api.Common, Size: size, Align: align}
}

func undef(name string) api.Sym {
	return api.Sym{Name: name, Bind: api.Undef}
}

func weakUndef(name string) api.Sym {
	return api.Sym{Name: name, Bind: api.WeakUndef}
}

func object(syms ...api.Sym) api.Object {
	return api.Object{Syms: syms}
}

// loaded is the table into which the objects were loaded.
func loaded(objects []api.Object) *symtab.Table {
	var t symtab.Table
	for _, o := range objects {
		t.Load(o)
	}
	return &t
}

// brief tells a value that may be long.
func brief(value any) string {
	return fmt.Sprintf("%.999s", fmt.Sprintf("%+v", value))
}

// expect checks what a call results in; nil and empty slices are the same.
func expect(t *testing.T, got, want any, call ...any) {
	t.Helper()
	if g, w := fmt.Sprintf("%#v", got), fmt.Sprintf("%#v", want); plain(g) != plain(w) {
		t.Errorf("%s = %s; want %s", brief(call), brief(got), brief(want))
	}
}

// plain tells nil and empty slices alike.
func plain(s string) string {
	return strings.NewReplacer("(nil)", "{}").Replace(s)
}

// occurrence is a symbol, and the number of the unit that it is in.
type occurrence struct {
	x    api.Sym
	unit int
}

// occurrences lists the symbols with the name, in the order of the objects.
func occurrences(objects []api.Object, name string) []occurrence {
	var l []occurrence
	for unit, o := range objects {
		for _, x := range o.Syms {
			if x.Name == name {
				l = append(l, occurrence{x, unit})
			}
		}
	}
	return l
}

// with lists the occurrences that have the binding.
func with(l []occurrence, binding int) []occurrence {
	return slices.DeleteFunc(slices.Clone(l), func(o occurrence) bool { return o.x.Bind != binding })
}

// namesOf are the names that occur in the objects, in ascending order.
func namesOf(objects []api.Object) []string {
	var names []string
	for _, o := range objects {
		for _, x := range o.Syms {
			names = append(names, x.Name)
		}
	}
	slices.Sort(names)
	return slices.Compact(names)
}

// stateOf is the state of the name after the objects, made by layer 13.
func stateOf(objects []api.Object, name string) bind.State {
	s := bind.Empty()
	for _, o := range occurrences(objects, name) {
		s = bind.Merge(s, o.x, o.unit)
	}
	return s
}

// wantedOf are the names with a strong reference, but without a strong or weak definition, in ascending order.
func wantedOf(objects []api.Object) []string {
	var names []string
	for _, name := range namesOf(objects) {
		l := occurrences(objects, name)
		if len(with(l, api.Undef)) > 0 && len(with(l, api.Strong))+len(with(l, api.Weak)) == 0 {
			names = append(names, name)
		}
	}
	return names
}

// resolvedOf are the resolutions of all names, in ascending order.
func resolvedOf(objects []api.Object) []api.Resolved {
	var all []api.Resolved
	for _, name := range namesOf(objects) {
		all = append(all, resolutionOf(name, occurrences(objects, name)))
	}
	return all
}

// resolutionOf is the resolution of a symbol that occurs, read off its occurrences.
func resolutionOf(name string, l []occurrence) api.Resolved {
	for _, binding := range []int{api.Strong, api.Common, api.Weak, api.Undef, api.WeakUndef} {
		found := with(l, binding)
		if len(found) == 0 {
			continue
		}
		r := api.Resolved{Name: name, Bind: binding, Unit: found[0].unit}
		switch binding {
		case api.Strong, api.Weak:
			r.Size = found[0].x.Size
		case api.Common:
			for _, o := range found {
				r.Size, r.Align = max(r.Size, o.x.Size), max(r.Align, o.x.Align)
			}
		default:
			r.Unit = -1
		}
		return r
	}
	panic("a name without symbols")
}

// expectTable checks all that the table tells after the objects. The names are looked up, with those that occur.
func expectTable(t *testing.T, x *symtab.Table, objects []api.Object, names ...string) {
	t.Helper()
	expect(t, x.Units(), len(objects), "Units", objects)
	expect(t, x.Names(), namesOf(objects), "Names", objects)
	expect(t, x.Wanted(), wantedOf(objects), "Wanted", objects)
	expect(t, x.Resolved(), resolvedOf(objects), "Resolved", objects)
	for _, name := range slices.Concat(names, namesOf(objects)) {
		expect(t, x.State(name), stateOf(objects, name), "State", name, objects)
	}
}

// choices are what an object can have of a name: no symbol, or one of each binding, whose numbers differ between the units.
func choices(name string, unit int) [][]api.Sym {
	sizes := [...]int{4, 2, 8, 1, 6}
	aligns := [...]int{2, 8, 1, 16, 4}
	return [][]api.Sym{
		nil,
		{strong(name, 10+sizes[unit])},
		{weak(name, 20+sizes[unit])},
		{common(name, sizes[unit], aligns[unit])},
		{undef(name)},
		{weakUndef(name)},
	}
}

// sequences are all sequences of up to n objects whose symbols are chosen for each of the names.
func sequences(n int, names ...string) [][]api.Object {
	all := [][]api.Object{nil}
	last := all
	for unit := range n {
		var next [][]api.Object
		for _, l := range last {
			for _, o := range objectsWith(unit, names) {
				next = append(next, append(slices.Clone(l), o))
			}
		}
		all = append(all, next...)
		last = next
	}
	return all
}

// objectsWith are all objects whose symbols are chosen for each of the names.
func objectsWith(unit int, names []string) []api.Object {
	all := []api.Object{{}}
	for _, name := range names {
		var next []api.Object
		for _, o := range all {
			for _, syms := range choices(name, unit) {
				next = append(next, object(slices.Concat(o.Syms, syms)...))
			}
		}
		all = next
	}
	return all
}

// P14.1 to P14.3: the table into which no object was loaded.
func TestEmpty(t *testing.T) {
	var zero symtab.Table
	for _, x := range []*symtab.Table{&zero, new(symtab.Table), {}} {
		expect(t, x.Units(), 0, "Units")
		expect(t, x.Names(), []string{}, "Names")
		expect(t, x.Wanted(), []string{}, "Wanted")
		expect(t, x.Resolved(), []api.Resolved{}, "Resolved")
		expect(t, x.State("f"), bind.State{Unit: -1}, "State f")
		expect(t, x.State(""), bind.State{Unit: -1}, "State of the empty name")
		expect(t, x.Load(object(strong("f", 1))), 0, "Load")
		expect(t, x.Names(), []string{"f"}, "Names")
	}
}

// A nil Table loads nothing, and tells nothing.
func TestNil(t *testing.T) {
	var x *symtab.Table
	for range 3 {
		expect(t, x.Units(), 0, "Units")
		expect(t, x.Names(), []string{}, "Names")
		expect(t, x.Wanted(), []string{}, "Wanted")
		expect(t, x.Resolved(), []api.Resolved{}, "Resolved")
		for _, name := range []string{"f", "g", ""} {
			expect(t, x.State(name), bind.State{Unit: -1}, "State", name)
		}
		expect(t, x.Load(object(strong("f", 1), undef("g"))), -1, "Load")
		expect(t, x.Load(api.Object{}), -1, "Load of an object without symbols")
	}
}

// P14.1: objects are numbered from 0, whatever is in them.
func TestLoadNumbers(t *testing.T) {
	objects := []api.Object{
		{},
		object(strong("f", 1)),
		object(strong("f", 1)),
		{Body: []byte("code")},
		object(),
		object(undef("g"), weakUndef("f"), common("h", 4, 4)),
		{Syms: []api.Sym{weak("g", 2)}, Body: []byte{0}},
	}
	var x, other symtab.Table
	for i := range 1000 {
		expect(t, x.Units(), i, "Units")
		expect(t, x.Load(objects[i%len(objects)]), i, "Load")
		expect(t, x.Units(), i+1, "Units after Load")
	}
	expect(t, other.Units(), 0, "Units of another table")
	expect(t, other.Load(objects[1]), 0, "Load into another table")
	expect(t, x.Units(), 1000, "Units after Load into another table")
}

// P14.1: nothing but Load counts as loading.
func TestReadingLoadsNothing(t *testing.T) {
	objects := []api.Object{object(strong("f", 1), undef("g"))}
	x := loaded(objects)
	for range 3 {
		expectTable(t, x, objects, "", "a", "h", "fg")
	}
	expect(t, x.Load(object(weakUndef("h"))), 1, "Load")
	expect(t, x.Names(), []string{"f", "g", "h"}, "Names")
}

// P14.2: the states of names, told one by one.
func TestStateExamples(t *testing.T) {
	x := loaded([]api.Object{
		object(weak("f", 9), undef("g"), undef("h")),
		object(common("f", 4, 4), strong("g", 7)),
		object(common("f", 2, 8), strong("i", 1), weakUndef("g")),
		object(strong("g", 8), weakUndef("k")),
	})
	for _, c := range []struct {
		name string
		want bind.State
	}{
		{"f", bind.State{Bind: api.Common, Size: 4, Align: 8, Unit: 1, Defined: true}},
		{"g", bind.State{Bind: api.Strong, Size: 7, Unit: 1, Defined: true, StrongRef: true, WeakRef: true, Strongs: []int{1, 3}}},
		{"h", bind.State{Unit: -1, StrongRef: true}},
		{"i", bind.State{Bind: api.Strong, Size: 1, Unit: 2, Defined: true, Strongs: []int{2}}},
		{"k", bind.State{Unit: -1, WeakRef: true}},
		{"j", bind.State{Unit: -1}},
		{"", bind.State{Unit: -1}},
		{"F", bind.State{Unit: -1}},
		{"f\x00", bind.State{Unit: -1}},
		{"fg", bind.State{Unit: -1}},
	} {
		expect(t, x.State(c.name), c.want, "State", c.name)
	}
	expect(t, x.Names(), []string{"f", "g", "h", "i", "k"}, "Names")
}

// P14.3: the example of the chapter.
func TestWantedExample(t *testing.T) {
	var x symtab.Table
	x.Load(object(undef("f")))
	expect(t, x.Wanted(), []string{"f"}, "Wanted")
	x.Load(object(strong("f", 0)))
	expect(t, x.Wanted(), []string{}, "Wanted")
}

// P14.3: what is wanted, and how it is resolved, told for symbols by their bindings.
func TestResolvedExamples(t *testing.T) {
	for _, c := range []struct {
		syms   []api.Sym
		want   api.Resolved
		wanted bool
	}{
		{[]api.Sym{undef("f")}, api.Resolved{Name: "f", Bind: api.Undef, Unit: -1}, true},
		{[]api.Sym{weakUndef("f")}, api.Resolved{Name: "f", Bind: api.WeakUndef, Unit: -1}, false},
		{[]api.Sym{weakUndef("f"), undef("f")}, api.Resolved{Name: "f", Bind: api.Undef, Unit: -1}, true},
		{[]api.Sym{undef("f"), weakUndef("f")}, api.Resolved{Name: "f", Bind: api.Undef, Unit: -1}, true},
		{[]api.Sym{undef("f"), weak("f", 3)}, api.Resolved{Name: "f", Bind: api.Weak, Size: 3, Unit: 1}, false},
		{[]api.Sym{weak("f", 3), weak("f", 5)}, api.Resolved{Name: "f", Bind: api.Weak, Size: 3, Unit: 0}, false},
		{[]api.Sym{weakUndef("f"), undef("f"), common("f", 3, 16)}, api.Resolved{Name: "f", Bind: api.Common, Size: 3, Align: 16, Unit: 2}, true},
		{[]api.Sym{weakUndef("f"), common("f", 3, 16)}, api.Resolved{Name: "f", Bind: api.Common, Size: 3, Align: 16, Unit: 1}, false},
		{[]api.Sym{weak("f", 9), common("f", 3, 16), common("f", 4, 8)}, api.Resolved{Name: "f", Bind: api.Common, Size: 4, Align: 16, Unit: 1}, false},
		{[]api.Sym{undef("f"), weak("f", 9), common("f", 3, 16)}, api.Resolved{Name: "f", Bind: api.Common, Size: 3, Align: 16, Unit: 2}, false},
		{[]api.Sym{common("f", 3, 16), weak("f", 9), strong("f", 1)}, api.Resolved{Name: "f", Bind: api.Strong, Size: 1, Unit: 2}, false},
		{[]api.Sym{strong("f", 0), strong("f", 7)}, api.Resolved{Name: "f", Bind: api.Strong, Unit: 0}, false},
		{[]api.Sym{undef("f"), strong("f", 1<<32-1), weakUndef("f")}, api.Resolved{Name: "f", Bind: api.Strong, Size: 1<<32 - 1, Unit: 1}, false},
	} {
		var x symtab.Table
		for _, s := range c.syms {
			x.Load(object(s))
		}
		expect(t, x.Resolved(), []api.Resolved{c.want}, "Resolved", c.syms)
		var wanted []string
		if c.wanted {
			wanted = []string{"f"}
		}
		expect(t, x.Wanted(), wanted, "Wanted", c.syms)
	}
}

// P14.1 to P14.3: all sequences of objects with one name and with two.
func TestSequences(t *testing.T) {
	for _, objects := range slices.Concat(sequences(5, "f"), sequences(2, "g", "f")) {
		expectTable(t, loaded(objects), objects, "f", "g", "h")
	}
}

// P14.1 to P14.3: what a table tells after each object of a sequence, not only after the last one.
func TestEachStep(t *testing.T) {
	for _, objects := range sequences(2, "f", "e", "g") {
		if len(objects) < 2 {
			continue
		}
		objects = append(slices.Clone(objects), objects[0])
		var x symtab.Table
		for i, o := range objects {
			expect(t, x.Load(o), i, "Load", o)
			expect(t, x.Wanted(), wantedOf(objects[:i+1]), "Wanted", objects[:i+1])
			expect(t, x.Resolved(), resolvedOf(objects[:i+1]), "Resolved", objects[:i+1])
		}
	}
}

// P14.2: the order of the symbols within an object has no effect, nor has its body.
func TestOrderWithinObjects(t *testing.T) {
	syms := []api.Sym{undef("d"), strong("a", 3), common("c", 4, 8), weakUndef("e"), weak("b", 5)}
	for shift := range syms {
		turned := slices.Concat(syms[shift:], syms[:shift])
		backward := slices.Clone(turned)
		slices.Reverse(backward)
		objects := []api.Object{{Syms: turned, Body: []byte("OBJ1")}, {Syms: backward}}
		expectTable(t, loaded(objects), objects)
		expect(t, loaded(objects).Resolved(), loaded([]api.Object{object(syms...), object(syms...)}).Resolved(), "Resolved", objects)
	}
}

// someNames are in the ascending order of their bytes.
func someNames() []string {
	return []string{
		"\x01", "\x01\x01", "\t", "\n", " ", "  ", " f", "%", "-", ".", "/", "//", "0", "00", "1", "10", "2", "9", "F", "FF", "F_", "G", "_", "__f",
		"f", "f\x01", "f f", "f.", "f0", "fF", "ff", "ff\x7f", "ff\x80", "fg", "f\xc3", "fé", "f\xff", "g", "~", "\x7f", "\x80", "\xc3", "\xc3\xa8", "é", "éé",
		"日本", "日本語", "\xff", "\xff\x01", "\xff\xff",
	}
}

// P14.2, P14.3: names are in the order of their bytes, in whichever order they are loaded.
func TestNamesAscend(t *testing.T) {
	names := someNames()
	for _, step := range []int{1, 3, 7, 11, 23, 49} {
		var syms []api.Sym
		for i := range names {
			syms = append(syms, undef(names[i*step%len(names)]))
		}
		expectNames(t, loaded([]api.Object{object(syms...)}), names, "in one object")
		var each []api.Object
		for _, s := range syms {
			each = append(each, object(s))
		}
		expectNames(t, loaded(each), names, "in an object each")
		expectNames(t, loaded(slices.Concat(each, each)), names, "twice")
	}
}

// expectNames checks the names of a table all of which are wanted.
func expectNames(t *testing.T, x *symtab.Table, names []string, how string) {
	t.Helper()
	expect(t, x.Names(), names, "Names", how)
	expect(t, x.Wanted(), names, "Wanted", how)
	var resolved []api.Resolved
	for _, name := range names {
		resolved = append(resolved, api.Resolved{Name: name, Bind: api.Undef, Unit: -1})
		expect(t, x.State(name), bind.State{Unit: -1, StrongRef: true}, "State", name, how)
	}
	expect(t, x.Resolved(), resolved, "Resolved", how)
}

// P14.2: names of every byte, and of every length; each differs from what is like it.
func TestNamesOfAllKinds(t *testing.T) {
	var names []string
	for b := 1; b < 256; b++ {
		names = append(names, string([]byte{byte(b)}))
	}
	for n := 2; n <= 255; n++ {
		names = append(names, strings.Repeat("n", n))
	}
	var x symtab.Table
	for i, name := range names {
		if s := x.State(name); s.Defined {
			t.Errorf("%q is defined before it occurs", name)
		}
		x.Load(object(strong(name, i)))
		expect(t, x.State(name), bind.State{Bind: api.Strong, Size: i, Unit: i, Defined: true, Strongs: []int{i}}, "State", name)
	}
	for i, name := range names {
		expect(t, x.State(name), bind.State{Bind: api.Strong, Size: i, Unit: i, Defined: true, Strongs: []int{i}}, "State", name)
	}
	slices.Sort(names)
	expect(t, x.Names(), names, "Names")
	expect(t, x.Wanted(), []string{}, "Wanted")
}

// numbered is a symbol that is told by its number: its name, and its binding, which is one of five.
func numbered(n int) api.Sym {
	return choices(fmt.Sprintf("%05d", n), n%5)[1+n%5][0]
}

// P14.3: only some of many names are wanted, also if others are referred to.
func TestWantedAmongMany(t *testing.T) {
	var objects []api.Object
	for i := range 500 {
		// The factor makes the names come in no order.
		x := numbered(i * 7 % 500)
		objects = append(objects, object(x))
		if i%3 == 0 {
			objects = append(objects, object(undef(x.Name)))
		}
	}
	expectTable(t, loaded(objects), objects)
	if wanted := wantedOf(objects); len(wanted) < 100 || len(wanted) > 300 {
		t.Errorf("%d of 500 names are wanted", len(wanted))
	}
}

// P14.1 to P14.3: an object with as many symbols as a valid one can have.
func TestGreatestObject(t *testing.T) {
	const most = 1 << 16
	var o api.Object
	var names, wanted []string
	var resolved []api.Resolved
	for n := range most {
		o.Syms = append(o.Syms, numbered(n*40503%most))
		x := numbered(n)
		names = append(names, x.Name)
		resolved = append(resolved, resolutionOf(x.Name, []occurrence{{x, 1}}))
		if x.Bind == api.Undef {
			wanted = append(wanted, x.Name)
		}
	}
	if !objsym.Valid(o) {
		t.Fatal("the object is not valid")
	}
	var x symtab.Table
	expect(t, x.Load(object()), 0, "Load")
	expect(t, x.Load(o), 1, "Load")
	expect(t, x.Names(), names, "Names")
	expect(t, x.Wanted(), wanted, "Wanted")
	expect(t, x.Resolved(), resolved, "Resolved")
}

// P14.1, P14.2: many objects that define one symbol.
func TestManyObjects(t *testing.T) {
	var x symtab.Table
	var units []int
	for i := range 5000 {
		expect(t, x.Load(object(strong("f", i+1), undef("g"))), i, "Load")
		units = append(units, i)
	}
	expect(t, x.State("f"), bind.State{Bind: api.Strong, Size: 1, Unit: 0, Defined: true, Strongs: units}, "State f")
	expect(t, x.Wanted(), []string{"g"}, "Wanted")
	expect(t, x.Resolved(), []api.Resolved{{Name: "f", Bind: api.Strong, Size: 1}, {Name: "g", Bind: api.Undef, Unit: -1}}, "Resolved")
}

// P14.4: tables do not share their states, also if the same objects are loaded.
func TestTablesAreSeparate(t *testing.T) {
	common := []api.Object{object(strong("f", 1), undef("g")), object(strong("f", 2))}
	left, right := slices.Concat(common, []api.Object{object(strong("f", 3), strong("g", 4))}), slices.Concat(common, []api.Object{object(weak("f", 5), undef("h"))})
	x, y := loaded(common), loaded(common)
	x.Load(left[2])
	y.Load(right[2])
	expectTable(t, x, left, "f", "g", "h")
	expectTable(t, y, right, "f", "g", "h")
}

// roomy is the object with unused memory behind its slices.
func roomy(o api.Object) api.Object {
	o.Syms = append(slices.Clone(o.Syms), strong("unused", 77), undef("unused"), strong("", 1))[:len(o.Syms)]
	o.Body = append(slices.Clone(o.Body), "unused"...)[:len(o.Body)]
	return o
}

// describe tells all of an object, with what lies behind its slices.
func describe(o api.Object) string {
	return fmt.Sprintf("%d %d %+v %q", len(o.Syms), len(o.Body), o.Syms[:cap(o.Syms)], o.Body[:cap(o.Body)])
}

// overwrite changes the memory of a slice, with what lies behind it.
func overwrite[E any](l []E, value E) {
	l = l[:cap(l)]
	for i := range l {
		l[i] = value
	}
}

// P14.4: objects do not change when they are loaded, nor the table when they change later.
func TestArguments(t *testing.T) {
	for _, objects := range sequences(2, "f", "g") {
		var x symtab.Table
		var given []api.Object
		for _, o := range objects {
			o = roomy(api.Object{Syms: o.Syms, Body: []byte("code")})
			want := describe(o)
			x.Load(o)
			expect(t, describe(o), want, "the object after Load")
			given = append(given, o)
		}
		before := slices.Clone(given)
		for i := range before {
			before[i] = roomy(before[i])
		}
		for _, o := range given {
			overwrite(o.Syms, strong("z", 5))
			overwrite(o.Body, 'z')
		}
		expectTable(t, &x, before, "f", "g", "z", "unused")
	}
}

// P14.4: a change of what the table returned does not change the table, or what else it returned.
func TestResultsAreNew(t *testing.T) {
	for _, objects := range slices.Concat(sequences(2, "f", "g"), sequences(4, "f")) {
		x := loaded(objects)
		f, g := x.State("f"), x.State("g")
		names, wanted, resolved := x.Names(), x.Wanted(), x.Resolved()
		overwrite(x.State("f").Strongs, -7)
		overwrite(x.Names(), "z")
		overwrite(x.Wanted(), "y")
		overwrite(x.Resolved(), api.Resolved{Name: "x", Unit: 9})
		expect(t, f, stateOf(objects, "f"), "an earlier State f", objects)
		expect(t, names, namesOf(objects), "earlier Names", objects)
		expect(t, wanted, wantedOf(objects), "earlier Wanted", objects)
		expect(t, resolved, resolvedOf(objects), "earlier Resolved", objects)
		overwrite(f.Strongs, -7)
		overwrite(g.Strongs, -7)
		overwrite(names, "z")
		overwrite(wanted, "y")
		overwrite(resolved, api.Resolved{Name: "x", Unit: 9})
		expectTable(t, x, objects, "f", "g", "x", "y", "z")
	}
}

// P14.4: what the table returned does not change when more objects are loaded, nor the table by what is appended to it.
func TestResultsStay(t *testing.T) {
	for _, objects := range sequences(4, "f") {
		x := loaded(objects)
		f, names, wanted, resolved := x.State("f"), x.Names(), x.Wanted(), x.Resolved()
		_ = append(f.Strongs, -7)
		more := []api.Object{object(strong("f", 99), undef("e")), object(undef("f"))}
		for _, o := range more {
			x.Load(o)
		}
		_ = append(f.Strongs, -7)
		expectTable(t, x, slices.Concat(objects, more), "e", "f")
		expect(t, f, stateOf(objects, "f"), "State f before Load", objects)
		expect(t, names, namesOf(objects), "Names before Load", objects)
		expect(t, wanted, wantedOf(objects), "Wanted before Load", objects)
		expect(t, resolved, resolvedOf(objects), "Resolved before Load", objects)
	}
}

// P14.2, P14.3: what a table tells does not depend on the order of a map.
func TestSameEachTime(t *testing.T) {
	names := someNames()
	var objects []api.Object
	for i, name := range names {
		objects = append(objects, object(choices(name, i%5)[1+i*3%5]...))
	}
	for range 50 {
		expectTable(t, loaded(objects), objects)
	}
}

// Nothing is promised for objects that are not valid, but no call panics.
func TestInvalidObjects(t *testing.T) {
	var x symtab.Table
	for _, binding := range []int{-1 << 63, -1, 0, 6, 255, 1<<63 - 1} {
		for _, name := range []string{"", "f", "f\x00", strings.Repeat("n", 256)} {
			s := api.Sym{Name: name, Bind: binding, Size: -1, Align: 3}
			x.Load(object(s, s, strong(name, -1), strong(name, -1), common(name, -1, -1), undef(name)))
			x.State(name)
			x.Names()
			x.Wanted()
			x.Resolved()
		}
	}
	expect(t, x.Units(), 24, "Units")
}
