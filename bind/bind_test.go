package bind_test

import (
	"fmt"
	"math"
	"slices"
	"testing"

	"arlink/api"
	"arlink/bind"
)

// occurrence is a symbol of a unit.
type occurrence struct {
	x    api.Sym
	unit int
}

// symbol is the one with the binding, the size and the alignment.
func symbol(binding, size, align int) api.Sym {
	return api.Sym{Name: "f", Bind: binding, Size: size, Align: align}
}

// someSymbols are symbols of all bindings; those of each have different sizes and alignments, so that the order counts.
func someSymbols() []api.Sym {
	return []api.Sym{
		symbol(api.Strong, 10, 3),
		symbol(api.Strong, 30, 64),
		symbol(api.Weak, 50, 5),
		symbol(api.Weak, 1, 0),
		symbol(api.Common, 4, 4),
		symbol(api.Common, 2, 8),
		symbol(api.Common, -7, -2),
		symbol(api.Undef, 99, 98),
		symbol(api.WeakUndef, 97, 96),
	}
}

// sequences are all sequences of up to n of the symbols, in units whose numbers are a function of their positions.
func sequences(n int, unitAt func(i int) int) [][]occurrence {
	all := [][]occurrence{nil}
	last := all
	for i := range n {
		var next [][]occurrence
		for _, l := range last {
			for _, x := range someSymbols() {
				next = append(next, append(slices.Clone(l), occurrence{x, unitAt(i)}))
			}
		}
		all = append(all, next...)
		last = next
	}
	return all
}

func ascending(i int) int { return i }

// merged is the state that Merge makes of the symbols, from the empty state.
func merged(l []occurrence) bind.State {
	s := bind.Empty()
	for _, o := range l {
		s = bind.Merge(s, o.x, o.unit)
	}
	return s
}

// with lists the occurrences that have the binding.
func with(l []occurrence, binding int) []occurrence {
	var found []occurrence
	for _, o := range l {
		if o.x.Bind == binding {
			found = append(found, o)
		}
	}
	return found
}

// stateOf is the state of the symbols, field by field as the chapter defines it.
func stateOf(l []occurrence) bind.State {
	s := bind.State{
		Unit:      -1,
		Defined:   len(with(l, api.Strong)) > 0 || len(with(l, api.Weak)) > 0,
		StrongRef: len(with(l, api.Undef)) > 0,
		WeakRef:   len(with(l, api.WeakUndef)) > 0,
	}
	strong, common, weak := with(l, api.Strong), with(l, api.Common), with(l, api.Weak)
	for _, o := range strong {
		s.Strongs = append(s.Strongs, o.unit)
	}
	switch {
	case len(strong) > 0:
		s.Bind, s.Unit, s.Size = api.Strong, strong[0].unit, strong[0].x.Size
	case len(common) > 0:
		s.Bind, s.Unit = api.Common, common[0].unit
		var sizes, aligns []int
		for _, o := range common {
			sizes = append(sizes, o.x.Size)
			aligns = append(aligns, o.x.Align)
		}
		s.Size, s.Align = slices.Max(sizes), slices.Max(aligns)
	case len(weak) > 0:
		s.Bind, s.Unit, s.Size = api.Weak, weak[0].unit, weak[0].x.Size
	}
	return s
}

func same(a, b bind.State) bool {
	strongs := slices.Equal(a.Strongs, b.Strongs)
	return strongs && a.Bind == b.Bind && a.Size == b.Size && a.Align == b.Align && a.Unit == b.Unit &&
		a.Defined == b.Defined && a.StrongRef == b.StrongRef && a.WeakRef == b.WeakRef
}

// brief tells a value that may be long.
func brief(value any) string {
	return fmt.Sprintf("%.999s", fmt.Sprintf("%+v", value))
}

// expect checks the state that results from a call, which is told by its words.
func expect(t *testing.T, got, want bind.State, call ...any) {
	t.Helper()
	if !same(got, want) {
		t.Errorf("%s = %s; want %s", brief(call), brief(got), brief(want))
	}
}

// P13.1: the empty state.
func TestEmpty(t *testing.T) {
	expect(t, bind.Empty(), bind.State{Bind: 0, Size: 0, Align: 0, Unit: -1}, "Empty")
}

// P13.1: each binding alone, in a unit with any number.
func TestMergeOne(t *testing.T) {
	for _, unit := range []int{0, 1, 2, 1000, math.MaxInt32, math.MaxInt} {
		for _, c := range []struct {
			x    api.Sym
			want bind.State
		}{
			{symbol(api.Strong, 10, 8), bind.State{Bind: api.Strong, Size: 10, Unit: unit, Defined: true, Strongs: []int{unit}}},
			{symbol(api.Weak, 20, 16), bind.State{Bind: api.Weak, Size: 20, Unit: unit, Defined: true}},
			{symbol(api.Common, 4, 2), bind.State{Bind: api.Common, Size: 4, Align: 2, Unit: unit}},
			{symbol(api.Common, 0, 1), bind.State{Bind: api.Common, Align: 1, Unit: unit}},
			{symbol(api.Undef, 7, 3), bind.State{Unit: -1, StrongRef: true}},
			{symbol(api.WeakUndef, 7, 3), bind.State{Unit: -1, WeakRef: true}},
		} {
			expect(t, bind.Merge(bind.Empty(), c.x, unit), c.want, "Merge", "Empty", c.x, unit)
		}
	}
}

// P13.1: the example of the chapter, and what further symbols make of it.
func TestMergeExample(t *testing.T) {
	s := bind.Empty()
	for _, step := range []struct {
		x    api.Sym
		unit int
		want bind.State
	}{
		{symbol(api.Weak, 9, 0), 0, bind.State{Bind: api.Weak, Size: 9, Unit: 0, Defined: true}},
		{symbol(api.Common, 4, 4), 1, bind.State{Bind: api.Common, Size: 4, Align: 4, Unit: 1, Defined: true}},
		{symbol(api.Common, 2, 8), 2, bind.State{Bind: api.Common, Size: 4, Align: 8, Unit: 1, Defined: true}},
		{symbol(api.WeakUndef, 0, 0), 3, bind.State{Bind: api.Common, Size: 4, Align: 8, Unit: 1, Defined: true, WeakRef: true}},
		{symbol(api.Strong, 3, 0), 4, bind.State{Bind: api.Strong, Size: 3, Unit: 4, Defined: true, WeakRef: true, Strongs: []int{4}}},
		{symbol(api.Common, 99, 99), 5, bind.State{Bind: api.Strong, Size: 3, Unit: 4, Defined: true, WeakRef: true, Strongs: []int{4}}},
		{symbol(api.Strong, 5, 0), 6, bind.State{Bind: api.Strong, Size: 3, Unit: 4, Defined: true, WeakRef: true, Strongs: []int{4, 6}}},
		{symbol(api.Undef, 0, 0), 7, bind.State{Bind: api.Strong, Size: 3, Unit: 4, Defined: true, StrongRef: true, WeakRef: true, Strongs: []int{4, 6}}},
	} {
		before := s
		s = bind.Merge(before, step.x, step.unit)
		expect(t, s, step.want, "Merge", before, step.x, step.unit)
	}
}

// P13.1: all sequences of symbols, in units with numbers in any order, also the same one.
func TestMergeSequences(t *testing.T) {
	for _, l := range sequences(5, ascending) {
		expect(t, merged(l), stateOf(l), "Merge all of", l)
	}
	for _, unitAt := range []func(int) int{
		func(i int) int { return 10 - i },
		func(i int) int { return math.MaxInt - i },
		func(i int) int { return i * i % 3 },
		func(i int) int { return 0 },
	} {
		for _, l := range sequences(4, unitAt) {
			expect(t, merged(l), stateOf(l), "Merge all of", l)
		}
	}
}

// P13.1: sizes and alignments of every magnitude are taken as they are.
func TestMergeSizes(t *testing.T) {
	numbers := []int{math.MinInt, -1, 0, 1, 1 << 16, 1<<32 - 1, 1 << 32, math.MaxInt}
	for _, size := range numbers {
		for _, align := range numbers {
			for _, other := range numbers {
				for _, bindings := range [][]int{{api.Strong, api.Strong}, {api.Weak, api.Weak}, {api.Common, api.Common}, {api.Weak, api.Common}, {api.Common, api.Strong}, {api.Undef, api.Common}} {
					l := []occurrence{{symbol(bindings[0], size, align), 0}, {symbol(bindings[1], other, size), 1}}
					expect(t, merged(l), stateOf(l), "Merge all of", l)
				}
			}
		}
	}
}

// P13.1: the name of the symbol has no effect.
func TestMergeNames(t *testing.T) {
	for _, l := range sequences(2, ascending) {
		for _, name := range []string{"", "g", "\x00", "\xff\n", "a name that is longer"} {
			named := slices.Clone(l)
			for i := range named {
				named[i].x.Name = name
			}
			expect(t, merged(named), stateOf(l), "Merge all of", named)
		}
	}
}

// P13.1: the strong definitions of many units are kept in order.
func TestMergeMany(t *testing.T) {
	var l []occurrence
	for unit := range 3000 {
		l = append(l, occurrence{someSymbols()[unit*unit%9], unit})
	}
	expect(t, merged(l), stateOf(l), "Merge all of", "3000 symbols")
	if s := merged(l); len(s.Strongs) < 1000 || !slices.IsSorted(s.Strongs) {
		t.Errorf("the units with a strong definition are %s", brief(s.Strongs))
	}
}

// P13.2: a sequence is joined from its parts, wherever it is split.
func TestJoinSequences(t *testing.T) {
	for _, l := range sequences(5, ascending) {
		want := stateOf(l)
		for i := range len(l) + 1 {
			a, b := stateOf(l[:i]), stateOf(l[i:])
			expect(t, bind.Join(a, b), want, "Join", a, b)
		}
	}
}

// P13.2: the order of the arguments counts, and not that of the units' numbers.
func TestJoinOrder(t *testing.T) {
	for _, first := range sequences(2, func(i int) int { return 5 - i }) {
		for _, second := range sequences(2, ascending) {
			a, b := stateOf(first), stateOf(second)
			expect(t, bind.Join(a, b), stateOf(slices.Concat(first, second)), "Join", a, b)
			expect(t, bind.Join(b, a), stateOf(slices.Concat(second, first)), "Join", b, a)
		}
	}
}

// P13.2: each kind of field, told one by one.
func TestJoinExamples(t *testing.T) {
	strong := bind.State{Bind: api.Strong, Size: 10, Unit: 3, Defined: true, Strongs: []int{3, 5}}
	other := bind.State{Bind: api.Strong, Size: 20, Unit: 4, Defined: true, WeakRef: true, Strongs: []int{4}}
	common := bind.State{Bind: api.Common, Size: 4, Align: 8, Unit: 1, StrongRef: true}
	weak := bind.State{Bind: api.Weak, Size: 50, Unit: 0, Defined: true}
	for _, c := range []struct{ a, b, want bind.State }{
		{strong, other, bind.State{Bind: api.Strong, Size: 10, Unit: 3, Defined: true, WeakRef: true, Strongs: []int{3, 5, 4}}},
		{other, strong, bind.State{Bind: api.Strong, Size: 20, Unit: 4, Defined: true, WeakRef: true, Strongs: []int{4, 3, 5}}},
		{common, strong, bind.State{Bind: api.Strong, Size: 10, Unit: 3, Defined: true, StrongRef: true, Strongs: []int{3, 5}}},
		{strong, common, bind.State{Bind: api.Strong, Size: 10, Unit: 3, Defined: true, StrongRef: true, Strongs: []int{3, 5}}},
		{weak, common, bind.State{Bind: api.Common, Size: 4, Align: 8, Unit: 1, Defined: true, StrongRef: true}},
		{common, weak, bind.State{Bind: api.Common, Size: 4, Align: 8, Unit: 1, Defined: true, StrongRef: true}},
		{weak, weak, weak},
	} {
		expect(t, bind.Join(c.a, c.b), c.want, "Join", c.a, c.b)
	}
}

// P13.3: the three questions, for symbols told by their bindings.
func TestQuestions(t *testing.T) {
	for _, c := range []struct {
		bindings                     []int
		wanted, undefined, duplicate bool
	}{
		{nil, false, false, false},
		{[]int{api.Undef}, true, true, false},
		{[]int{api.WeakUndef}, false, false, false},
		{[]int{api.WeakUndef, api.Undef}, true, true, false},
		{[]int{api.Undef, api.Undef}, true, true, false},
		{[]int{api.Undef, api.Strong}, false, false, false},
		{[]int{api.Strong, api.Undef}, false, false, false},
		{[]int{api.Weak, api.Undef}, false, false, false},
		{[]int{api.Undef, api.Weak}, false, false, false},
		{[]int{api.Common, api.Undef}, true, false, false},
		{[]int{api.Undef, api.Common}, true, false, false},
		{[]int{api.Undef, api.Common, api.Weak}, false, false, false},
		{[]int{api.Common, api.WeakUndef}, false, false, false},
		{[]int{api.Strong}, false, false, false},
		{[]int{api.Strong, api.Weak, api.Common}, false, false, false},
		{[]int{api.Weak, api.Weak}, false, false, false},
		{[]int{api.Common, api.Common}, false, false, false},
		{[]int{api.Strong, api.Strong}, false, false, true},
		{[]int{api.Strong, api.Undef, api.Strong}, false, false, true},
		{[]int{api.Strong, api.Strong, api.Strong}, false, false, true},
	} {
		s := bind.Empty()
		for unit, binding := range c.bindings {
			s = bind.Merge(s, symbol(binding, 1, 1), unit)
		}
		expectAnswers(t, s, c.wanted, c.undefined, c.duplicate)
	}
}

// expectAnswers checks what Wanted, Undefined and Duplicate tell of a state.
func expectAnswers(t *testing.T, s bind.State, wanted, undefined, duplicate bool) {
	t.Helper()
	if bind.Wanted(s) != wanted || bind.Undefined(s) != undefined || bind.Duplicate(s) != duplicate {
		t.Errorf("of %s, Wanted, Undefined and Duplicate are %t, %t, %t; want %t, %t, %t", brief(s),
			bind.Wanted(s), bind.Undefined(s), bind.Duplicate(s), wanted, undefined, duplicate)
	}
}

// P13.3: the three questions, for all sequences of symbols.
func TestQuestionsOfSequences(t *testing.T) {
	for _, l := range sequences(4, ascending) {
		strong, common, weak := len(with(l, api.Strong)), len(with(l, api.Common)), len(with(l, api.Weak))
		referred := len(with(l, api.Undef)) > 0
		expectAnswers(t, stateOf(l), referred && strong+weak == 0, referred && strong+weak+common == 0, strong >= 2)
	}
}

// P13.4: the empty state is neutral on either side.
func TestJoinNeutral(t *testing.T) {
	expect(t, bind.Join(bind.Empty(), bind.Empty()), bind.Empty(), "Join", "Empty", "Empty")
	for _, l := range sequences(4, ascending) {
		s := stateOf(l)
		expect(t, bind.Join(s, bind.Empty()), s, "Join", s, "Empty")
		expect(t, bind.Join(bind.Empty(), s), s, "Join", "Empty", s)
	}
}

// P13.4: three states are joined alike, whichever two come first.
func TestJoinAssociative(t *testing.T) {
	var states []bind.State
	for _, l := range sequences(2, ascending) {
		states = append(states, stateOf(l))
	}
	for _, a := range states {
		for _, b := range states {
			ab := bind.Join(a, b)
			for _, c := range states {
				expect(t, bind.Join(ab, c), bind.Join(a, bind.Join(b, c)), "Join of Join", a, b, c)
			}
		}
	}
}

// P13.4: Merge joins the state of one symbol.
func TestMergeIsJoin(t *testing.T) {
	for _, l := range sequences(3, ascending) {
		for _, x := range someSymbols() {
			s, one := stateOf(l), stateOf([]occurrence{{x, 7}})
			expect(t, bind.Merge(s, x, 7), bind.Join(s, one), "Merge", s, x, 7)
		}
	}
}

// unused lies behind the units of a state that is made by roomy.
const unused = 77

// roomy is the state of symbols, the units of which have unused memory behind them.
func roomy(l []occurrence) bind.State {
	s := stateOf(l)
	n := len(s.Strongs)
	s.Strongs = append(s.Strongs, unused, unused, unused, unused)[:n]
	return s
}

// describe tells all of a state, with what lies behind its slice.
func describe(s bind.State) string {
	return fmt.Sprintf("%+v %v", s, s.Strongs[:cap(s.Strongs)])
}

// overwrite changes the memory of a state, with what lies behind it.
func overwrite(s bind.State) {
	units := s.Strongs[:cap(s.Strongs)]
	for i := range units {
		units[i] = -unused
	}
}

// results are calls that return states, each with two states as its arguments.
func results() map[string]func(a, b bind.State) bind.State {
	calls := map[string]func(a, b bind.State) bind.State{"Join": bind.Join}
	for _, x := range someSymbols() {
		calls["Merge "+brief(x)] = func(a, _ bind.State) bind.State { return bind.Merge(a, x, 9) }
	}
	return calls
}

// P13.5: no argument changes, nor what lies behind it, with a call or with its result.
func TestArgumentsUnchanged(t *testing.T) {
	all := sequences(2, ascending)
	for _, first := range all {
		for _, second := range all {
			for call, run := range results() {
				a, b := roomy(first), roomy(second)
				wantA, wantB := describe(a), describe(b)
				s := run(a, b)
				if describe(a) != wantA || describe(b) != wantB {
					t.Errorf("%s changes %s and %s to %s and %s", call, wantA, wantB, describe(a), describe(b))
				}
				overwrite(s)
				if describe(a) != wantA || describe(b) != wantB {
					t.Errorf("a change of the result of %s changes %s and %s to %s and %s", call, wantA, wantB, describe(a), describe(b))
				}
			}
		}
	}
}

// P13.5: no result changes with an argument, or with the result of another call with the same arguments.
func TestResultsAreNew(t *testing.T) {
	all := sequences(2, ascending)
	for _, first := range all {
		for _, second := range all {
			for call, run := range results() {
				want := run(roomy(first), roomy(second))
				a, b := roomy(first), roomy(second)
				got, another := run(a, b), run(a, b)
				overwrite(another)
				expect(t, got, want, call, a, b, "after a change of another result")
				overwrite(a)
				overwrite(b)
				expect(t, got, want, call, a, b, "after a change of the arguments")
			}
		}
	}
}

// P13.5: two states that continue the same one do not disturb each other.
func TestBranches(t *testing.T) {
	s := merged([]occurrence{{symbol(api.Strong, 1, 0), 0}, {symbol(api.Strong, 2, 0), 1}, {symbol(api.Strong, 3, 0), 2}})
	left, right := bind.Merge(s, symbol(api.Strong, 4, 0), 3), bind.Merge(s, symbol(api.Strong, 5, 0), 4)
	joined, other := bind.Join(s, left), bind.Join(s, right)
	for _, c := range []struct {
		s    bind.State
		want []int
	}{{s, []int{0, 1, 2}}, {left, []int{0, 1, 2, 3}}, {right, []int{0, 1, 2, 4}}, {joined, []int{0, 1, 2, 0, 1, 2, 3}}, {other, []int{0, 1, 2, 0, 1, 2, 4}}} {
		if !slices.Equal(c.s.Strongs, c.want) {
			t.Errorf("the units are %v; want %v", c.s.Strongs, c.want)
		}
	}
}

// P13.5: an empty state is new in each call too, and a slice of units may be nil or empty.
func TestEmptySlices(t *testing.T) {
	for _, l := range sequences(2, ascending) {
		a := stateOf(l)
		b := a
		if len(b.Strongs) == 0 {
			b.Strongs = []int{}
		}
		expect(t, bind.Join(b, b), bind.Join(a, a), "Join", a, a)
		expect(t, bind.Merge(b, symbol(api.Strong, 1, 0), 3), bind.Merge(a, symbol(api.Strong, 1, 0), 3), "Merge", a)
		expectAnswers(t, b, bind.Wanted(a), bind.Undefined(a), bind.Duplicate(a))
	}
	s := bind.Empty()
	s.Bind, s.Unit, s.Strongs = api.Strong, 5, append(s.Strongs, 5)
	expect(t, bind.Empty(), bind.State{Unit: -1}, "Empty", "after a change of another one")
}

// Nothing is promised for bindings that are not valid, but no call panics.
func TestInvalidBindings(t *testing.T) {
	for _, binding := range []int{math.MinInt, math.MinInt + 1, -3, -2, -1, 0, 6, 7, 255, 256, 257, 1<<32 + 1, math.MaxInt - 1, math.MaxInt} {
		for _, unit := range []int{math.MinInt, -1, 0, math.MaxInt} {
			s := bind.State{Bind: binding, Unit: unit, StrongRef: true}
			for _, l := range sequences(1, ascending) {
				bind.Merge(stateOf(l), symbol(binding, 1, 1), unit)
				bind.Join(stateOf(l), s)
				bind.Join(s, stateOf(l))
			}
			for _, x := range someSymbols() {
				bind.Merge(s, x, unit)
			}
			bind.Join(s, s)
			bind.Wanted(s)
			bind.Undefined(s)
			bind.Duplicate(s)
		}
	}
}
