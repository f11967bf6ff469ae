package common_test

import (
	"fmt"
	"math"
	"slices"
	"strings"
	"testing"

	"arlink/api"
	"arlink/common"
)

const (
	maxSize  = 1<<32 - 1
	maxAlign = 1 << 16
)

// symbol is the resolution of a common symbol.
func symbol(name string, size, align int) api.Resolved {
	return api.Resolved{Name: name, Bind: api.Common, Size: size, Align: align}
}

// otherBinds are the bindings of resolutions that are not laid out, and numbers that are no bindings.
func otherBinds() []int {
	return []int{api.Strong, api.Weak, api.Undef, api.WeakUndef, 0, -1, 6, -api.Common, api.Common + 1<<8, api.Common + 1<<32, math.MinInt, math.MaxInt}
}

// brief tells a value that may be long.
func brief(value any) string {
	return fmt.Sprintf("%.999s", fmt.Sprintf("%+q", value))
}

// layout is what Layout results in.
type layout struct {
	slots       []common.Slot
	size, align int
}

func layoutOf(l []api.Resolved) layout {
	slots, size, align := common.Layout(l)
	return layout{slots, size, align}
}

// expectSame checks the layout of the resolutions; nil and empty slots are the same.
func expectSame(t *testing.T, l []api.Resolved, want layout) {
	t.Helper()
	got := layoutOf(l)
	if !slices.Equal(got.slots, want.slots) || got.size != want.size || got.align != want.align {
		t.Errorf("Layout %s = %s; want %s", brief(l), brief(got), brief(want))
	}
}

// comesFirst tells whether a is placed before b: a greater alignment comes first, then a greater size, then the lesser name.
func comesFirst(a, b api.Resolved) bool {
	if a.Align == b.Align && a.Size == b.Size {
		return a.Name < b.Name
	}
	return a.Align > b.Align || a.Align == b.Align && a.Size > b.Size
}

// expectLayout checks that the layout of the resolutions is as the chapter defines it. It checks each slot with the one before it, and makes no layout of its own.
func expectLayout(t *testing.T, l []api.Resolved) {
	t.Helper()
	got := layoutOf(l)
	byName := map[string]api.Resolved{}
	greatest := 1
	for _, x := range l {
		if x.Bind == api.Common {
			byName[x.Name] = x
			greatest = max(greatest, x.Align)
		}
	}
	if len(got.slots) != len(byName) {
		t.Errorf("Layout %s has %d slots; want %d", brief(l), len(got.slots), len(byName))
	}
	end := 0
	for i, slot := range got.slots {
		x, found := byName[slot.Name]
		if !found || slot.Size != x.Size {
			t.Errorf("Layout %s has the slot %s of %s", brief(l), brief(slot), brief(x))
			return
		}
		if i > 0 && !comesFirst(byName[got.slots[i-1].Name], x) {
			t.Errorf("Layout %s has the slot %s after %s", brief(l), brief(slot), brief(got.slots[i-1]))
		}
		// A multiple of the alignment that is less than the alignment away from the end is the least one.
		if slot.Offset%x.Align != 0 || slot.Offset < end || slot.Offset-end >= x.Align {
			t.Errorf("Layout %s has the slot %s behind the end %d; its alignment is %d", brief(l), brief(slot), end, x.Align)
		}
		end = slot.Offset + slot.Size
	}
	if got.size != end || got.align != greatest {
		t.Errorf("Layout %s has the size %d and the alignment %d; want %d and %d", brief(l), got.size, got.align, end, greatest)
	}
}

// P16.1: the example of the chapter.
func TestExample(t *testing.T) {
	l := []api.Resolved{symbol("a", 1, 1), symbol("b", 3, 4), symbol("c", 8, 4)}
	expectSame(t, l, layout{[]common.Slot{{"c", 0, 8}, {"b", 8, 3}, {"a", 11, 1}}, 12, 4})
	expectLayout(t, l)
}

// P16.1: no symbols have the size 0 and the alignment 1.
func TestNoSymbols(t *testing.T) {
	nothing := layout{nil, 0, 1}
	expectSame(t, nil, nothing)
	expectSame(t, []api.Resolved{}, nothing)
	for _, binding := range otherBinds() {
		x := api.Resolved{Name: "f", Bind: binding, Size: 8, Align: 16, Unit: 2}
		expectSame(t, []api.Resolved{x}, nothing)
		expectSame(t, []api.Resolved{x, x, x}, nothing)
	}
}

// P16.1: one symbol of any size and alignment begins at 0; nothing is added behind it.
func TestOneSymbol(t *testing.T) {
	for align := 1; align <= maxAlign; align *= 2 {
		for _, size := range []int{0, 1, 2, 3, 4, 7, 8, 1000, align - 1, align, align + 1, 1<<31 - 1, 1 << 31, maxSize - 1, maxSize} {
			for _, name := range []string{"f", "", "\x00", "\xff\n", strings.Repeat("n", 1000)} {
				l := []api.Resolved{symbol(name, size, align)}
				expectSame(t, l, layout{[]common.Slot{{name, 0, size}}, size, align})
				expectLayout(t, l)
			}
		}
	}
}

// P16.1: layouts that are told slot by slot.
func TestLayouts(t *testing.T) {
	for _, c := range []struct {
		l    []api.Resolved
		want layout
	}{
		// The alignment counts before the size and the name.
		{[]api.Resolved{symbol("a", 100, 1), symbol("b", 1, 2)}, layout{[]common.Slot{{"b", 0, 1}, {"a", 1, 100}}, 101, 2}},
		{[]api.Resolved{symbol("a", 100, 8), symbol("b", 1, 16)}, layout{[]common.Slot{{"b", 0, 1}, {"a", 8, 100}}, 108, 16}},
		// The size counts before the name.
		{[]api.Resolved{symbol("a", 1, 1), symbol("b", 2, 1)}, layout{[]common.Slot{{"b", 0, 2}, {"a", 2, 1}}, 3, 1}},
		{[]api.Resolved{symbol("a", 9, 4), symbol("b", 10, 4)}, layout{[]common.Slot{{"b", 0, 10}, {"a", 12, 9}}, 21, 4}},
		// The lesser name comes first.
		{[]api.Resolved{symbol("b", 3, 2), symbol("a", 3, 2)}, layout{[]common.Slot{{"a", 0, 3}, {"b", 4, 3}}, 7, 2}},
		{[]api.Resolved{symbol("f10", 1, 1), symbol("f9", 1, 1), symbol("f", 1, 1)}, layout{[]common.Slot{{"f", 0, 1}, {"f10", 1, 1}, {"f9", 2, 1}}, 3, 1}},
		// A symbol that ends at a multiple of the next alignment leaves no gap.
		{[]api.Resolved{symbol("a", 8, 8), symbol("b", 8, 4), symbol("c", 2, 2)}, layout{[]common.Slot{{"a", 0, 8}, {"b", 8, 8}, {"c", 16, 2}}, 18, 8}},
		// One that does not leaves one, which no later symbol fills.
		{[]api.Resolved{symbol("a", 9, 8), symbol("b", 1, 8), symbol("c", 1, 1)}, layout{[]common.Slot{{"a", 0, 9}, {"b", 16, 1}, {"c", 17, 1}}, 18, 8}},
		{[]api.Resolved{symbol("a", 1, maxAlign), symbol("b", 1, maxAlign), symbol("c", 1, 2)}, layout{[]common.Slot{{"a", 0, 1}, {"b", maxAlign, 1}, {"c", maxAlign + 2, 1}}, maxAlign + 3, maxAlign}},
		// Symbols without bytes have a place too, which is aligned.
		{[]api.Resolved{symbol("a", 0, 1), symbol("b", 0, 1)}, layout{[]common.Slot{{"a", 0, 0}, {"b", 0, 0}}, 0, 1}},
		{[]api.Resolved{symbol("a", 0, 8), symbol("b", 1, 4), symbol("c", 0, 4), symbol("d", 1, 1)}, layout{[]common.Slot{{"a", 0, 0}, {"b", 0, 1}, {"c", 4, 0}, {"d", 4, 1}}, 5, 8}},
		{[]api.Resolved{symbol("a", 5, 8), symbol("b", 0, 8)}, layout{[]common.Slot{{"a", 0, 5}, {"b", 8, 0}}, 8, 8}},
		// The greatest sizes.
		{[]api.Resolved{symbol("a", maxSize, 1), symbol("b", maxSize, maxAlign)}, layout{[]common.Slot{{"b", 0, maxSize}, {"a", maxSize, maxSize}}, 2 * maxSize, maxAlign}},
		{[]api.Resolved{symbol("a", maxSize, 2), symbol("b", maxSize, 2)}, layout{[]common.Slot{{"a", 0, maxSize}, {"b", maxSize + 1, maxSize}}, 2*maxSize + 1, 2}},
	} {
		expectSame(t, c.l, c.want)
		slices.Reverse(c.l)
		expectSame(t, c.l, c.want)
		expectLayout(t, c.l)
	}
}

// sequences are all sequences of up to n of the elements, which may be repeated.
func sequences[E any](n int, elements ...E) [][]E {
	all := [][]E{nil}
	last := all
	for range n {
		var next [][]E
		for _, l := range last {
			for _, e := range elements {
				next = append(next, append(slices.Clone(l), e))
			}
		}
		all = append(all, next...)
		last = next
	}
	return all
}

// kinds are common symbols with all combinations of the sizes and the alignments.
func kinds(sizes, aligns []int) []api.Resolved {
	var l []api.Resolved
	for _, align := range aligns {
		for _, size := range sizes {
			l = append(l, symbol("", size, align))
		}
	}
	return l
}

// named are the resolutions with different names, which descend.
func named(l []api.Resolved) []api.Resolved {
	l = slices.Clone(l)
	for i := range l {
		l[i].Name = string(rune('z' - i))
	}
	return l
}

// P16.1: all lists of a few symbols.
func TestAllLists(t *testing.T) {
	for _, l := range sequences(4, kinds([]int{0, 1, 3, 8}, []int{1, 2, 8})...) {
		expectLayout(t, named(l))
	}
	for _, l := range sequences(7, kinds([]int{1, 2}, []int{1, 4})...) {
		expectLayout(t, named(l))
	}
}

// P16.1: all lists of a few symbols with resolutions of all bindings among them.
func TestAllListsWithOthers(t *testing.T) {
	others := kinds([]int{1, 5}, []int{1, 4})
	for _, binding := range []int{api.Strong, api.Weak, api.Undef, api.WeakUndef, 0} {
		others = append(others, api.Resolved{Bind: binding, Size: 9, Align: 16, Unit: 3})
	}
	for _, l := range sequences(4, others...) {
		expectLayout(t, named(l))
	}
}

// P16.1: symbols of each pair of alignments, with sizes about them, and one without an alignment behind them.
func TestAlignments(t *testing.T) {
	for a := 1; a <= maxAlign; a *= 2 {
		for b := 1; b <= maxAlign; b *= 2 {
			for _, size := range []int{0, 1, a - 1, a, a + 1, b - 1, b, b + 1, 3 * a, maxSize - a, maxSize} {
				expectLayout(t, []api.Resolved{symbol("f", size, a), symbol("g", size, b), symbol("h", 1, 1)})
				expectLayout(t, []api.Resolved{symbol("f", size, a), symbol("g", 1, b), symbol("h", size, 1)})
				expectLayout(t, []api.Resolved{symbol("f", 1, a), symbol("g", size, b), symbol("h", size, a)})
			}
		}
	}
}

// P16.1: one symbol of each alignment, and several of each, with sizes that leave gaps.
func TestAllAlignmentsTogether(t *testing.T) {
	for number := 1; number <= 20; number++ {
		var l []api.Resolved
		for n := range number {
			for align := 1; align <= maxAlign; align *= 2 {
				l = append(l, symbol(fmt.Sprintf("f%d_%d", align, n), n*n*n%23, align))
			}
		}
		expectLayout(t, l)
	}
}

// P16.1: resolutions with another Bind have no effect, whatever their other fields are and wherever they are.
func TestOtherBinds(t *testing.T) {
	l := []api.Resolved{symbol("a", 1, 1), symbol("b", 3, 4), symbol("c", 8, 4)}
	want := layoutOf(l)
	for _, binding := range otherBinds() {
		for _, name := range []string{"a", "b", "c", "d", ""} {
			for _, size := range []int{math.MinInt, -1, 0, 8, maxSize, math.MaxInt} {
				for _, align := range []int{math.MinInt, -1, 0, 3, 4, maxAlign, math.MaxInt} {
					x := api.Resolved{Name: name, Bind: binding, Size: size, Align: align, Unit: 1}
					for i := range len(l) + 1 {
						expectSame(t, slices.Insert(slices.Clone(l), i, x, x), want)
					}
				}
			}
		}
	}
}

// P16.1: the unit with the definition has no effect.
func TestUnits(t *testing.T) {
	want := layoutOf([]api.Resolved{symbol("a", 3, 4), symbol("b", 3, 4), symbol("c", 3, 4)})
	units := []int{math.MinInt, -1, 0, 1, 7, math.MaxInt}
	for _, a := range units {
		for _, b := range units {
			for _, c := range units {
				l := []api.Resolved{symbol("b", 3, 4), symbol("c", 3, 4), symbol("a", 3, 4)}
				l[0].Unit, l[1].Unit, l[2].Unit = a, b, c
				expectSame(t, l, want)
			}
		}
	}
}

// someNames are in the ascending order of their bytes.
func someNames() []string {
	return []string{
		"", "\x00", "\x00\x00", "\x01", "\t", "\n", " ", "  ", " f", "-", ".", "/", "0", "00", "1", "10", "2", "9", "F", "FF", "F_", "G", "_", "__f",
		"f", "f\x00", "f\x01", "f f", "f.", "f0", "f10", "f9", "fF", "ff", "ff\x7f", "ff\x80", "fg", "f\xc3", "fé", "f\xff", "g", "~", "\x7f", "\x80", "\xc3", "\xc3\xa8", "é", "éé",
		"日本", "日本語", "\xff", "\xff\x01", "\xff\xff",
	}
}

// P16.1: names are ordered by their bytes, not by runes, by lengths or by letters regardless of case.
func TestNames(t *testing.T) {
	names := someNames()
	var slots []common.Slot
	for i, name := range names {
		slots = append(slots, common.Slot{Name: name, Offset: 8 * i, Size: 4})
	}
	want := layout{slots, 8*len(names) - 4, 8}
	for i := range names {
		var l []api.Resolved
		for _, name := range slices.Concat(names[i:], names[:i]) {
			l = append(l, symbol(name, 4, 8))
		}
		expectSame(t, l, want)
		slices.Reverse(l)
		expectSame(t, l, want)
	}
	for _, a := range names {
		for _, b := range names {
			if a != b {
				expectLayout(t, []api.Resolved{symbol(a, 1, 1), symbol(b, 1, 1)})
			}
		}
	}
}

// numbered is a name that is told by its number.
func numbered(n int) string {
	return fmt.Sprintf("f%06d", n)
}

// P16.1: as many symbols as are promised, of all sizes and alignments.
func TestManySymbols(t *testing.T) {
	const many = 1 << 16
	for _, at := range []func(n int) int{
		func(n int) int { return n },
		func(n int) int { return many - 1 - n },
		func(n int) int { return n * 40503 % many },
	} {
		var l []api.Resolved
		for i := range many {
			n := at(i)
			l = append(l, symbol(numbered(n), n*n*7919%(maxSize+1), 1<<(n*n%17)))
		}
		expectLayout(t, l)
	}
}

// P16.1: the greatest section: each symbol has the greatest size, and the gap behind it is the greatest.
func TestGreatestSection(t *testing.T) {
	const many = 1 << 16
	var l []api.Resolved
	var slots []common.Slot
	for n := range many {
		l = append(l, symbol(numbered(many-1-n), maxSize-maxAlign+2, maxAlign))
		slots = append(slots, common.Slot{Name: numbered(n), Offset: n * (1 << 32), Size: maxSize - maxAlign + 2})
	}
	expectSame(t, l, layout{slots, many<<32 - maxAlign + 1, maxAlign})
	for n := range l {
		l[n].Size, slots[n].Size = maxSize, maxSize
	}
	expectSame(t, l, layout{slots, many<<32 - 1, maxAlign})
}

// expectFound checks what Find results in.
func expectFound(t *testing.T, slots []common.Slot, name string, want common.Slot, found bool) {
	t.Helper()
	if got, ok := common.Find(slots, name); got != want || ok != found {
		t.Errorf("Find %s %q = %s %t; want %s %t", brief(slots), name, brief(got), ok, brief(want), found)
	}
}

// P16.2: the slots of a layout, and names that none of them has.
func TestFind(t *testing.T) {
	slots, _, _ := common.Layout([]api.Resolved{symbol("a", 1, 1), symbol("b", 3, 4), symbol("c", 8, 4)})
	expectFound(t, slots, "a", common.Slot{Name: "a", Offset: 11, Size: 1}, true)
	expectFound(t, slots, "b", common.Slot{Name: "b", Offset: 8, Size: 3}, true)
	expectFound(t, slots, "c", common.Slot{Name: "c", Offset: 0, Size: 8}, true)
	for _, name := range []string{"", "A", "d", "aa", "a\x00", " a", "ab"} {
		expectFound(t, slots, name, common.Slot{}, false)
	}
}

// P16.2: in no slots, nothing is found.
func TestFindInNoSlots(t *testing.T) {
	for _, name := range someNames() {
		expectFound(t, nil, name, common.Slot{}, false)
		expectFound(t, []common.Slot{}, name, common.Slot{}, false)
	}
}

// P16.2: all lists of slots with a few names, which may be repeated, and need be in no order. Each slot is told by its other fields.
func TestFindTheFirst(t *testing.T) {
	for _, names := range sequences(6, "g", "", "f") {
		var slots []common.Slot
		for i, name := range names {
			slots = append(slots, common.Slot{Name: name, Offset: 100 - i, Size: i - 3})
		}
		for _, name := range []string{"", "f", "g", "h", "ff"} {
			if i := slices.Index(names, name); i >= 0 {
				expectFound(t, slots, name, slots[i], true)
			} else {
				expectFound(t, slots, name, common.Slot{}, false)
			}
		}
	}
}

// P16.2: names of all kinds, alone, and each among all of the others.
func TestFindNames(t *testing.T) {
	names := someNames()
	var slots []common.Slot
	for i, name := range names {
		slots = append(slots, common.Slot{Name: name, Offset: i, Size: math.MaxInt - i})
	}
	for i, name := range names {
		expectFound(t, slots, name, slots[i], true)
		expectFound(t, slices.Concat(slots[:i], slots[i+1:]), name, common.Slot{}, false)
		for j, other := range names {
			want := common.Slot{}
			if i == j {
				want = slots[i]
			}
			expectFound(t, slots[i:i+1], other, want, i == j)
		}
	}
}

// P16.2: the slot that is found may itself be the zero Slot.
func TestFindTheZeroSlot(t *testing.T) {
	expectFound(t, []common.Slot{{Name: "f", Offset: 1, Size: 2}, {}, {Offset: 3}}, "", common.Slot{}, true)
}

// orders are all orders of the resolutions.
func orders(l []api.Resolved) [][]api.Resolved {
	if len(l) == 0 {
		return [][]api.Resolved{nil}
	}
	var all [][]api.Resolved
	for i, x := range l {
		for _, rest := range orders(slices.Concat(l[:i], l[i+1:])) {
			all = append(all, append([]api.Resolved{x}, rest...))
		}
	}
	return all
}

// P16.3: all orders of resolutions have the same layout.
func TestOrders(t *testing.T) {
	l := []api.Resolved{
		symbol("f", 4, 4), symbol("e", 4, 4), symbol("d", 5, 4), symbol("g", 9, 1), {Name: "f", Bind: api.Strong, Size: 7, Align: 32}, symbol("a", 0, 8), symbol("c", 0, 4),
	}
	want := layout{[]common.Slot{{"a", 0, 0}, {"d", 0, 5}, {"e", 8, 4}, {"f", 12, 4}, {"c", 16, 0}, {"g", 16, 9}}, 25, 8}
	for _, order := range orders(l) {
		expectSame(t, order, want)
	}
}

// P16.3: all orders of all lists of a few symbols.
func TestOrdersOfAllLists(t *testing.T) {
	others := append(kinds([]int{0, 1, 3}, []int{1, 2}), api.Resolved{Bind: api.Weak, Size: 5, Align: 8})
	for _, l := range sequences(4, others...) {
		l = named(l)
		want := layoutOf(l)
		for _, order := range orders(l) {
			expectSame(t, order, want)
		}
	}
}

// roomy is the list with unused memory behind it.
func roomy[E any](l []E, unused E) []E {
	return append(slices.Clone(l), unused, unused, unused)[:len(l)]
}

// whole is a list with what lies behind it.
func whole[E any](l []E) []E {
	return slices.Clone(l[:cap(l)])
}

// overwrite changes the memory of a list, with what lies behind it.
func overwrite[E any](l []E, with E) {
	l = l[:cap(l)]
	for i := range l {
		l[i] = with
	}
}

// P16.4: the resolutions do not change, nor what lies behind them.
func TestResolutionsAreNotModified(t *testing.T) {
	others := append(kinds([]int{0, 1, 3}, []int{1, 2}), api.Resolved{Bind: api.Undef, Unit: -1})
	for _, plain := range sequences(4, others...) {
		l := roomy(named(plain), symbol("unused", 99, 64))
		before := whole(l)
		slots, _, _ := common.Layout(l)
		if !slices.Equal(whole(l), before) {
			t.Errorf("Layout changes %s to %s", brief(before), brief(whole(l)))
		}
		overwrite(slots, common.Slot{Name: "overwritten", Offset: 1, Size: 1})
		if !slices.Equal(whole(l), before) {
			t.Errorf("a change of the slots changes %s to %s", brief(before), brief(whole(l)))
		}
	}
}

// P16.4: no result changes with the resolutions, or with the result of another call with them.
func TestResultsAreNew(t *testing.T) {
	others := append(kinds([]int{0, 1, 3}, []int{1, 2}), api.Resolved{Bind: api.Undef, Unit: -1})
	for _, plain := range sequences(4, others...) {
		l := roomy(named(plain), symbol("unused", 99, 64))
		want := layoutOf(l)
		slots := slices.Clone(want.slots)
		another, _, _ := common.Layout(l)
		overwrite(another, common.Slot{Name: "overwritten", Offset: 1, Size: 1})
		expectSame(t, l, layout{slots, want.size, want.align})
		overwrite(l, symbol("overwritten", 5, 2))
		if !slices.Equal(want.slots, slots) {
			t.Errorf("a change of the resolutions, or of another result, changes the slots %s to %s", brief(slots), brief(want.slots))
		}
	}
}

// P16.4: the slots do not change when one is looked up, nor what lies behind them.
func TestSlotsAreNotModified(t *testing.T) {
	for _, names := range sequences(4, "g", "", "f") {
		var slots []common.Slot
		for i, name := range names {
			slots = append(slots, common.Slot{Name: name, Offset: 100 - i, Size: i})
		}
		slots = roomy(slots, common.Slot{Name: "h", Offset: 1, Size: 2})
		before := whole(slots)
		for _, name := range []string{"", "f", "g", "h"} {
			found, _ := common.Find(slots, name)
			found.Name, found.Offset, found.Size = "overwritten", 1, 1
			if !slices.Equal(whole(slots), before) {
				t.Errorf("Find %q changes %s to %s", name, brief(before), brief(whole(slots)))
			}
		}
		expectFound(t, slots, "h", common.Slot{}, false)
	}
}

// Nothing is promised for symbols that are not valid, but no call panics, and each ends with the same result again.
func TestInvalidSymbols(t *testing.T) {
	var invalid []api.Resolved
	for _, align := range []int{math.MinInt, -maxAlign, -3, -1, 0, 1, 3, 6, 8, 1 << 17, 1 << 62, math.MaxInt} {
		for _, size := range []int{math.MinInt, -1, 0, 1, maxSize + 1, math.MaxInt} {
			invalid = append(invalid, symbol("f", size, align))
		}
	}
	for _, l := range sequences(2, invalid...) {
		expectSame(t, l, layoutOf(l))
		expectSame(t, append(l, symbol("g", 3, 4)), layoutOf(append(l, symbol("g", 3, 4))))
	}
	expectSame(t, invalid, layoutOf(invalid))
}

// Nothing is promised for symbols with the same name, but no call panics, and the order of the resolutions still has no effect.
func TestRepeatedNames(t *testing.T) {
	l := []api.Resolved{symbol("f", 4, 4), symbol("f", 4, 4), symbol("f", 3, 4), symbol("f", 9, 1), symbol("e", 4, 4)}
	want := layoutOf(l)
	for _, order := range orders(l) {
		expectSame(t, order, want)
	}
}
