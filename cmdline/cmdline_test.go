package cmdline_test

import (
	"fmt"
	"regexp"
	"slices"
	"strings"
	"testing"

	"arlink/api"
	"arlink/cmdline"
)

// file is the item of a file whose name is the word with the index at.
func file(name string, at int) cmdline.Item {
	return cmdline.Item{Files: []string{name}, At: []int{at}}
}

// group is the item of a group whose files are words one after the other, the first of which has the index at.
func group(at int, names ...string) cmdline.Item {
	x := cmdline.Item{Group: true, Files: names}
	for i := range names {
		x.At = append(x.At, at+i)
	}
	return x
}

// brief tells a value that may be long.
func brief(value any) string {
	return fmt.Sprintf("%.999s", fmt.Sprintf("%#v", value))
}

// sameItem tells whether two items are the same; nil and empty slices are.
func sameItem(a, b cmdline.Item) bool {
	return a.Group == b.Group && slices.Equal(a.Files, b.Files) && slices.Equal(a.At, b.At)
}

// expectItems checks that the words are parsed to the items.
func expectItems(t *testing.T, words []string, want ...cmdline.Item) {
	t.Helper()
	got, i, err := cmdline.Parse(words)
	if !slices.EqualFunc(got, want, sameItem) || i != 0 || err != api.OK {
		t.Errorf("Parse %s = %s %d %d; want %s 0 0", brief(words), brief(got), i, err, brief(want))
	}
}

// expectError checks that the words are rejected, with the index and the error.
func expectError(t *testing.T, words []string, index int, want api.Errno) {
	t.Helper()
	got, i, err := cmdline.Parse(words)
	if got != nil || i != index || err != want {
		t.Errorf("Parse %s = %s %d %d; want nil %d %d", brief(words), brief(got), i, err, index, want)
	}
}

// sequences are all sequences of up to n of the elements, which may be repeated.
func sequences[E any](n int, elements ...E) [][]E {
	all := [][]E{nil}
	last := all
	for range n {
		var next [][]E
		for _, l := range last {
			for _, e := range elements {
				next = append(next, append(slices.Clone(l), e))
			}
		}
		all = append(all, next...)
		last = next
	}
	return all
}

// P17.1: the example of the chapter, and that of the document.
func TestExamples(t *testing.T) {
	expectItems(t, []string{"a.o", "-(", "x.a", "y.a", "-)"}, file("a.o", 0), group(2, "x.a", "y.a"))
	expectError(t, []string{"a.o", "-(", "x.a"}, 1, api.ErrGroup)
}

// P17.1: no words are no items.
func TestNoWords(t *testing.T) {
	expectItems(t, nil)
	expectItems(t, []string{})
	expectItems(t, make([]string, 0, 5))
}

// P17.1: files outside of groups are items of their own, also if they are repeated.
func TestFilesOutsideOfGroups(t *testing.T) {
	expectItems(t, []string{"a.o"}, file("a.o", 0))
	expectItems(t, []string{"a.o", "b.o"}, file("a.o", 0), file("b.o", 1))
	expectItems(t, []string{"b.o", "x.a", "a.o", "x.a"}, file("b.o", 0), file("x.a", 1), file("a.o", 2), file("x.a", 3))
	expectItems(t, []string{"a.o", "a.o", "a.o"}, file("a.o", 0), file("a.o", 1), file("a.o", 2))
}

// P17.1: groups begin and end with any of their words, whether these are alike or not.
func TestGroupWords(t *testing.T) {
	for _, begin := range []string{"-(", "--start-group"} {
		for _, end := range []string{"-)", "--end-group"} {
			expectItems(t, []string{begin, end}, group(1))
			expectItems(t, []string{begin, "x.a", end}, group(1, "x.a"))
			expectItems(t, []string{"a.o", begin, "x.a", "y.a", "x.a", end, "b.o"}, file("a.o", 0), group(2, "x.a", "y.a", "x.a"), file("b.o", 6))
		}
	}
}

// P17.1: groups may be empty, and follow each other; each has its own files.
func TestGroups(t *testing.T) {
	expectItems(t, []string{"-(", "-)", "-(", "-)"}, group(1), group(3))
	expectItems(t, []string{"-(", "x.a", "-)", "-(", "-)", "-(", "x.a", "-)"}, group(1, "x.a"), group(4), group(6, "x.a"))
	expectItems(t, []string{"-(", "-)", "a.o", "-(", "x.a", "-)", "a.o", "b.o"}, group(1), file("a.o", 2), group(4, "x.a"), file("a.o", 6), file("b.o", 7))
	expectItems(t, []string{"--start-group", "x.a", "-)", "y.a", "-(", "z.a", "w.a", "--end-group"}, group(1, "x.a"), file("y.a", 3), group(5, "z.a", "w.a"))
}

// P17.1: each error, alone and with others behind it.
func TestErrors(t *testing.T) {
	for _, c := range []struct {
		words []string
		index int
		err   api.Errno
	}{
		{[]string{""}, 0, api.ErrArg},
		{[]string{"a.o", "b.o", "", "c.o", ""}, 2, api.ErrArg},
		{[]string{"-(", ""}, 1, api.ErrArg},
		{[]string{"-(", "", "-)"}, 1, api.ErrArg},
		{[]string{"-(", "x.a", "-)", ""}, 3, api.ErrArg},
		{[]string{"-)"}, 0, api.ErrGroup},
		{[]string{"--end-group"}, 0, api.ErrGroup},
		{[]string{"a.o", "-)", ""}, 1, api.ErrGroup},
		{[]string{"", "-)"}, 0, api.ErrArg},
		{[]string{"-(", "-)", "-)"}, 2, api.ErrGroup},
		{[]string{"-(", "-)", "--end-group", "-)"}, 2, api.ErrGroup},
		{[]string{"-(", "x.a", "-(", "-)", "-)"}, 2, api.ErrGroup},
		{[]string{"-(", "--start-group"}, 1, api.ErrGroup},
		{[]string{"--start-group", "-(", ""}, 1, api.ErrGroup},
		{[]string{"-(", "x.a", "", "-("}, 2, api.ErrArg},
		{[]string{"a.o", "--start-group", "--start-group", "-)", "-)"}, 2, api.ErrGroup},
		// Groups that are not ended. A wrong word comes first, although its index is greater.
		{[]string{"-("}, 0, api.ErrGroup},
		{[]string{"--start-group"}, 0, api.ErrGroup},
		{[]string{"a.o", "b.o", "--start-group", "x.a", "y.a"}, 2, api.ErrGroup},
		{[]string{"-(", "x.a", "-)", "y.a", "-(", "z.a"}, 4, api.ErrGroup},
		{[]string{"-(", "-)", "-(", "-)", "-("}, 4, api.ErrGroup},
		{[]string{"-(", "x.a", "y.a", ""}, 3, api.ErrArg},
		{[]string{"-(", "x.a", "y.a", "-("}, 3, api.ErrGroup},
	} {
		expectError(t, c.words, c.index, c.err)
	}
}

// kinds tells the words of a command line, a letter each: those that begin and end a group, files and empty words.
func kinds(words []string) string {
	var s strings.Builder
	for _, word := range words {
		switch {
		case word == "":
			s.WriteByte('0')
		case slices.Contains([]string{"-(", "--start-group"}, word):
			s.WriteByte('b')
		case slices.Contains([]string{"-)", "--end-group"}, word):
			s.WriteByte('e')
		default:
			s.WriteByte('f')
		}
	}
	return s.String()
}

// An item, and the longest beginning of a command line without a wrong word, as kinds of words.
var (
	oneItem = regexp.MustCompile(`f|bf*e`)
	noWrong = regexp.MustCompile(`^(f|bf*e)*(bf*)?`)
)

// expectParsed checks that the words are parsed as the chapter describes it. It reads the result off the kinds of the words.
func expectParsed(t *testing.T, words []string) {
	t.Helper()
	s := kinds(words)
	good := len(noWrong.FindString(s))
	opened := strings.LastIndexByte(s, 'b')
	switch {
	case good < len(s) && s[good] == '0':
		expectError(t, words, good, api.ErrArg)
	case good < len(s):
		expectError(t, words, good, api.ErrGroup)
	case opened > strings.LastIndexByte(s, 'e'):
		expectError(t, words, opened, api.ErrGroup)
	default:
		var want []cmdline.Item
		for _, x := range oneItem.FindAllStringIndex(s, -1) {
			if s[x[0]] == 'f' {
				want = append(want, file(words[x[0]], x[0]))
			} else {
				want = append(want, group(x[0]+1, words[x[0]+1:x[1]-1]...))
			}
		}
		expectItems(t, words, want...)
	}
}

// P17.1: all command lines of a few words.
func TestAllCommandLines(t *testing.T) {
	for _, words := range sequences(5, "a.o", "x.a", "", "-(", "--start-group", "-)", "--end-group") {
		expectParsed(t, words)
	}
	for _, words := range sequences(8, "a.o", "", "-(", "-)") {
		expectParsed(t, words)
	}
	for _, words := range sequences(11, "a.o", "-(", "-)") {
		expectParsed(t, words)
	}
}

// expectFile checks that the word is the name of a file, outside of groups and in one.
func expectFile(t *testing.T, word string) {
	t.Helper()
	expectItems(t, []string{word}, file(word, 0))
	expectItems(t, []string{"a.o", word, "-(", "x.a", word, "y.a", "-)", word}, file("a.o", 0), file(word, 1), group(3, "x.a", word, "y.a"), file(word, 7))
	expectError(t, []string{word, "-(", word}, 1, api.ErrGroup)
	expectError(t, []string{word, "-)", word}, 1, api.ErrGroup)
}

// notFiles are the words that are no names of files.
func notFiles() []string {
	return []string{"", "-(", "--start-group", "-)", "--end-group"}
}

// P17.1: all words of one and of two bytes, two of which begin and end a group.
func TestAllShortWords(t *testing.T) {
	for a := range 256 {
		expectFile(t, string([]byte{byte(a)}))
		for b := range 256 {
			if word := string([]byte{byte(a), byte(b)}); !slices.Contains(notFiles(), word) {
				expectFile(t, word)
			}
		}
	}
}

// P17.1: a word that differs in one byte from one that begins or ends a group is the name of a file.
func TestChangedGroupWords(t *testing.T) {
	for _, word := range []string{"-(", "--start-group", "-)", "--end-group"} {
		changed := []string{word + word, strings.ToUpper(word), " " + word + " ", strings.TrimLeft(word, "-")}
		for i := range len(word) + 1 {
			if i < len(word) {
				changed = append(changed, word[:i]+word[i+1:], word[:i], word[i+1:])
			}
			for b := range 256 {
				inserted := word[:i] + string([]byte{byte(b)})
				changed = append(changed, inserted+word[i:])
				if i < len(word) {
					changed = append(changed, inserted+word[i+1:])
				}
			}
		}
		for _, x := range changed {
			if !slices.Contains(notFiles(), x) {
				expectFile(t, x)
			}
		}
	}
}

// P17.1: names of all kinds, some of which begin a group elsewhere.
func TestNames(t *testing.T) {
	for _, name := range []string{
		"(", ")", "()", "-()", "(-", ")-", "--(", "--)", "-", "--", "-start-group", "-end-group", "--start", "--end", "--group", "--start-groups", "--end_group",
		"--start-group=x.a", "--start-group x.a", "-(x.a", "x.a-)", "-( -)", "-(\n", "-l", "-lc", "--help", "ld", "/", "//", "../x.a", "a b.o", " ", "\t", "\n", "\x00", "-(\x00",
		"é", "日本.o", "\xff\xfe", "－（", "−(", strings.Repeat("n", 1<<20), strings.Repeat("-(", 1<<16),
	} {
		expectFile(t, name)
	}
}

// numbered are n different names.
func numbered(n int) []string {
	var names []string
	for i := range n {
		names = append(names, fmt.Sprintf("f%d.o", i))
	}
	return names
}

// P17.1: command lines with many files, with many groups, and with one group of many files.
func TestManyWords(t *testing.T) {
	const many = 1 << 17
	names := numbered(many)
	var files, groups, empty []cmdline.Item
	var groupWords []string
	for i, name := range names {
		files = append(files, file(name, i))
		groupWords = append(groupWords, "-(", name, "-)")
		groups = append(groups, group(3*i+1, name))
		empty = append(empty, group(2*i+1))
	}
	emptyWords := slices.Repeat([]string{"-(", "--end-group"}, many)
	wholeGroup := slices.Concat([]string{"-("}, names, []string{"-)"})
	expectItems(t, names, files...)
	expectItems(t, groupWords, groups...)
	expectItems(t, emptyWords, empty...)
	expectItems(t, wholeGroup, group(1, names...))
	for _, words := range [][]string{names, groupWords, emptyWords, wholeGroup} {
		n := len(words)
		expectError(t, append(words, "-)"), n, api.ErrGroup)
		expectError(t, append(words, "", "-)"), n, api.ErrArg)
		expectError(t, append(words, "-("), n, api.ErrGroup)
		expectError(t, slices.Concat(words, []string{"--start-group"}, names), n, api.ErrGroup)
		expectError(t, slices.Concat(words, []string{"--start-group"}, names, []string{"-("}), n+1+many, api.ErrGroup)
	}
}

// someItems are items with lists of names of all kinds: none, one and several, with words that begin or end groups, and empty ones.
func someItems() []cmdline.Item {
	var l []cmdline.Item
	for _, names := range [][]string{nil, {}, {"a.o"}, {"x.a", "y.a"}, {"b.o", "b.o", "b.o"}, {""}, {"-("}, {"-)", "--start-group", "--end-group"}} {
		l = append(l, cmdline.Item{Files: names}, cmdline.Item{Group: true, Files: names})
	}
	return l
}

// expectWords checks the command line of the items, and the names of their files.
func expectWords(t *testing.T, l []cmdline.Item, words, names []string) {
	t.Helper()
	if got := cmdline.Words(l); !slices.Equal(got, words) {
		t.Errorf("Words %s = %s; want %s", brief(l), brief(got), brief(words))
	}
	if got := cmdline.Files(l); !slices.Equal(got, names) {
		t.Errorf("Files %s = %s; want %s", brief(l), brief(got), brief(names))
	}
}

// P17.2: the command lines and the files of a few items.
func TestWords(t *testing.T) {
	expectWords(t, nil, nil, nil)
	expectWords(t, []cmdline.Item{}, nil, nil)
	expectWords(t, []cmdline.Item{file("a.o", 0)}, []string{"a.o"}, []string{"a.o"})
	expectWords(t, []cmdline.Item{group(1)}, []string{"-(", "-)"}, nil)
	expectWords(t, []cmdline.Item{file("a.o", 0), group(2, "x.a", "y.a")}, []string{"a.o", "-(", "x.a", "y.a", "-)"}, []string{"a.o", "x.a", "y.a"})
	expectWords(t, []cmdline.Item{group(1, "x.a"), file("b.o", 3), group(5), group(7, "x.a")}, []string{"-(", "x.a", "-)", "b.o", "-(", "-)", "-(", "x.a", "-)"}, []string{"x.a", "b.o", "x.a"})
}

// P17.2: an item that is no group may have any number of files, all of which count.
func TestWordsOfItemsThatAreNotParsed(t *testing.T) {
	expectWords(t, []cmdline.Item{{}}, nil, nil)
	expectWords(t, []cmdline.Item{{Files: []string{}}, {Files: []string{"a.o", "b.o", "a.o"}}, {}}, []string{"a.o", "b.o", "a.o"}, []string{"a.o", "b.o", "a.o"})
	expectWords(t, []cmdline.Item{{Files: []string{"", "-("}}, {Group: true, Files: []string{"-)", ""}}}, []string{"", "-(", "-(", "-)", "", "-)"}, []string{"", "-(", "-)", ""})
}

// P17.2: all lists of a few items.
func TestWordsOfAllLists(t *testing.T) {
	for _, l := range sequences(3, someItems()...) {
		var words, names []string
		for _, x := range l {
			names = slices.Concat(names, x.Files)
			if x.Group {
				words = slices.Concat(words, []string{"-("}, x.Files, []string{"-)"})
			} else {
				words = slices.Concat(words, x.Files)
			}
		}
		expectWords(t, l, words, names)
	}
}

// P17.2: the indices of items have no effect, not even their number.
func TestIndicesHaveNoEffect(t *testing.T) {
	for _, l := range sequences(2, someItems()...) {
		words, names := cmdline.Words(l), cmdline.Files(l)
		for _, at := range [][]int{nil, {}, {0}, {-1}, {7, 7}, {3, 2, 1, 0}} {
			changed := slices.Clone(l)
			for i := range changed {
				changed[i].At = at
			}
			expectWords(t, changed, words, names)
		}
	}
}

// P17.2: many items, and items with many files.
func TestWordsOfManyItems(t *testing.T) {
	names := numbered(1 << 17)
	var files, groups []cmdline.Item
	var groupWords []string
	for i, name := range names {
		files = append(files, file(name, i))
		groups = append(groups, group(3*i+1, name))
		groupWords = append(groupWords, "-(", name, "-)")
	}
	expectWords(t, files, names, names)
	expectWords(t, groups, groupWords, names)
	expectWords(t, []cmdline.Item{{Files: names}}, names, names)
	expectWords(t, []cmdline.Item{group(1, names...)}, slices.Concat([]string{"-("}, names, []string{"-)"}), names)
}

// expectAgain checks that the words of the items of a command line are its words with short words for groups, and are parsed to the same items.
func expectAgain(t *testing.T, words []string) {
	t.Helper()
	l, _, err := cmdline.Parse(words)
	if err != api.OK {
		return
	}
	want, names := slices.Clone(words), []string{}
	for i, word := range words {
		switch word {
		case "-(", "--start-group":
			want[i] = "-("
		case "-)", "--end-group":
			want[i] = "-)"
		default:
			names = append(names, word)
		}
	}
	expectWords(t, l, want, names)
	expectItems(t, cmdline.Words(l), l...)
}

// P17.3: all command lines of a few words.
func TestParseOfWords(t *testing.T) {
	for _, words := range sequences(6, "a.o", "x.a", "-(", "--start-group", "-)", "--end-group") {
		expectAgain(t, words)
	}
	for _, words := range sequences(10, "a.o", "-(", "-)") {
		expectAgain(t, words)
	}
}

// P17.3: all lists of a few items that can be parsed, which need not be parsed before, nor have their indices.
func TestParseOfWordsOfItems(t *testing.T) {
	sameFiles := func(a, b cmdline.Item) bool { return a.Group == b.Group && slices.Equal(a.Files, b.Files) }
	items := []cmdline.Item{{Files: []string{"a.o"}}, {Files: []string{"-(-"}}}
	for _, names := range sequences(2, "x.a", "y.a") {
		items = append(items, cmdline.Item{Group: true, Files: names})
	}
	for _, l := range sequences(4, items...) {
		got, i, err := cmdline.Parse(cmdline.Words(l))
		if !slices.EqualFunc(got, l, sameFiles) || i != 0 || err != api.OK {
			t.Errorf("Parse of Words %s = %s %d %d", brief(l), brief(got), i, err)
		}
	}
}

// roomy is the list with unused memory behind it.
func roomy[E any](l []E, unused E) []E {
	return append(slices.Clone(l), unused, unused, unused)[:len(l)]
}

// whole is a list with what lies behind it.
func whole[E any](l []E) []E {
	return slices.Clone(l[:cap(l)])
}

// overwrite changes the memory of a list, with what lies behind it.
func overwrite[E any](l []E, with E) {
	l = l[:cap(l)]
	for i := range l {
		l[i] = with
	}
}

// copied are the items with memory of their own.
func copied(l []cmdline.Item) []cmdline.Item {
	l = slices.Clone(l)
	for i := range l {
		l[i].Files, l[i].At = slices.Clone(l[i].Files), slices.Clone(l[i].At)
	}
	return l
}

// overwriteItems changes the memory of items, with that of their slices.
func overwriteItems(l []cmdline.Item) {
	for _, x := range l {
		overwrite(x.Files, "overwritten")
		overwrite(x.At, -7)
	}
	overwrite(l, cmdline.Item{Group: true, Files: []string{"overwritten"}})
}

// P17.4: the words do not change when they are parsed or when the items change, nor what lies behind them.
func TestWordsAreNotModified(t *testing.T) {
	for _, plain := range sequences(5, "a.o", "x.a", "", "-(", "-)", "--end-group") {
		words := roomy(plain, "-)")
		before := whole(words)
		l, _, _ := cmdline.Parse(words)
		if !slices.Equal(whole(words), before) {
			t.Errorf("Parse changes %s to %s", brief(before), brief(whole(words)))
		}
		overwriteItems(l)
		if !slices.Equal(whole(words), before) {
			t.Errorf("a change of the items changes %s to %s", brief(before), brief(whole(words)))
		}
	}
}

// P17.4: the items do not change with the words, or with the items of another call with them.
func TestItemsAreNew(t *testing.T) {
	for _, plain := range sequences(5, "a.o", "x.a", "-(", "-)", "--end-group") {
		words := roomy(plain, "-)")
		l, _, _ := cmdline.Parse(words)
		want := copied(l)
		another, _, _ := cmdline.Parse(words)
		overwriteItems(another)
		overwrite(words, "overwritten")
		if !slices.EqualFunc(l, want, sameItem) {
			t.Errorf("a change of the words %s, or of other items, changes %s to %s", brief(plain), brief(want), brief(l))
		}
	}
}

// P17.4: no slice of an item shares memory with another.
func TestItemsShareNoMemory(t *testing.T) {
	words := []string{"a.o", "-(", "x.a", "y.a", "z.a", "-)", "b.o", "-(", "-)", "--start-group", "x.a", "--end-group", "c.o"}
	parsed, _, _ := cmdline.Parse(words)
	for i := range parsed {
		l, _, _ := cmdline.Parse(words)
		want := copied(l)
		overwrite(l[i].Files, "overwritten")
		overwrite(want[i].Files, "overwritten")
		if !slices.EqualFunc(l, want, sameItem) {
			t.Errorf("a change of the files of the item %d changes the items to %s; want %s", i, brief(l), brief(want))
		}
		overwrite(l[i].At, -7)
		overwrite(want[i].At, -7)
		if !slices.EqualFunc(l, want, sameItem) {
			t.Errorf("a change of the indices of the item %d changes the items to %s; want %s", i, brief(l), brief(want))
		}
	}
}

// roomyItems are copies of the items, with unused memory behind each slice.
func roomyItems(l []cmdline.Item) []cmdline.Item {
	l = copied(l)
	for i := range l {
		l[i].Files, l[i].At = roomy(l[i].Files, "unused"), roomy(l[i].At, 77)
	}
	return roomy(l, cmdline.Item{Group: true, Files: []string{"unused"}})
}

// wholeItems are copies of the items, with what lies behind each slice.
func wholeItems(l []cmdline.Item) []cmdline.Item {
	l = whole(l)
	for i := range l {
		l[i].Files, l[i].At = whole(l[i].Files), whole(l[i].At)
	}
	return l
}

// P17.4: items do not change when their words and files are told, or when these change, nor what lies behind each of their slices.
func TestItemsAreNotModified(t *testing.T) {
	for _, plain := range sequences(3, someItems()...) {
		l := roomyItems(plain)
		before := wholeItems(l)
		for _, told := range [][]string{cmdline.Words(l), cmdline.Files(l)} {
			if !slices.EqualFunc(wholeItems(l), before, sameItem) {
				t.Errorf("Words or Files changes %s to %s", brief(before), brief(wholeItems(l)))
			}
			overwrite(told, "overwritten")
			if !slices.EqualFunc(wholeItems(l), before, sameItem) {
				t.Errorf("a change of Words or Files changes %s to %s", brief(before), brief(wholeItems(l)))
			}
		}
	}
}

// P17.4: words and files do not change with the items, or with another result for them.
func TestWordsAreNew(t *testing.T) {
	for _, plain := range sequences(3, someItems()...) {
		for _, tell := range []func([]cmdline.Item) []string{cmdline.Words, cmdline.Files} {
			l := roomyItems(plain)
			got := tell(l)
			want := slices.Clone(got)
			overwrite(tell(l), "overwritten")
			overwriteItems(l)
			if !slices.Equal(got, want) {
				t.Errorf("a change of %s, or of another result, changes Words or Files from %s to %s", brief(plain), brief(want), brief(got))
			}
		}
	}
}
