package decfield_test

import (
	"bytes"
	"math"
	"strconv"
	"strings"
	"testing"

	"arlink/api"
	"arlink/decfield"
)

const greatestWidth = 18

var (
	bases      = []int{8, 10}
	wrongBases = []int{math.MinInt, -10, -8, -1, 0, 1, 2, 7, 9, 11, 16, 36, math.MaxInt}
)

// fieldOf is the field of n as the chapter defines it, or false if n has more digits than width.
func fieldOf(n, base, width int) (string, bool) {
	digits := strconv.FormatInt(int64(n), base)
	if len(digits) > width {
		return "", false
	}
	return digits + strings.Repeat(" ", width-len(digits)), true
}

// powersAround lists the numbers from 0 to 20, those next to each power of the base, and the greatest ones.
func powersAround(base int) []int {
	var numbers []int
	for n := range 21 {
		numbers = append(numbers, n)
	}
	for p := base; ; p *= base {
		numbers = append(numbers, p-1, p, p+1, p+p/2)
		if p > math.MaxInt/base/2 {
			break
		}
	}
	return append(numbers, 420, 123456789012345678, 999999999999999999, 1000000000000000000, math.MaxInt-1, math.MaxInt)
}

// stringsOver calls visit with each byte string of a width over an alphabet.
func stringsOver(alphabet string, width int, visit func(b []byte)) {
	b := make([]byte, width)
	var fill func(at int)
	fill = func(at int) {
		if at == width {
			visit(b)
			return
		}
		for _, c := range []byte(alphabet) {
			b[at] = c
			fill(at + 1)
		}
	}
	fill(0)
}

func everyByte() string {
	var b []byte
	for c := range 256 {
		b = append(b, byte(c))
	}
	return string(b)
}

func expectFormat(t *testing.T, n, base, width int, want string, wantErr api.Errno) {
	t.Helper()
	got, err := decfield.Format(n, base, width)
	if string(got) != want || err != wantErr {
		t.Errorf("Format(%d, %d, %d) = %q, %d; want %q, %d", n, base, width, got, err, want, wantErr)
	}
}

func expectParse(t *testing.T, b string, base, want int, wantErr api.Errno) {
	t.Helper()
	got, err := decfield.Parse([]byte(b), base)
	if got != want || err != wantErr {
		t.Errorf("Parse(%q, %d) = %d, %d; want %d, %d", b, base, got, err, want, wantErr)
	}
}

// P1.1: the chapter's example, and fields written out.
func TestFormatWrittenOut(t *testing.T) {
	expectFormat(t, 420, 8, 8, "644     ", api.OK)
	expectFormat(t, 0, 8, 1, "0", api.OK)
	expectFormat(t, 0, 10, 10, "0         ", api.OK)
	expectFormat(t, 7, 8, 1, "7", api.OK)
	expectFormat(t, 8, 8, 2, "10", api.OK)
	expectFormat(t, 8, 10, 2, "8 ", api.OK)
	expectFormat(t, 100, 10, 6, "100   ", api.OK)
	expectFormat(t, 9876543210, 10, 10, "9876543210", api.OK)
	expectFormat(t, 999999999999999999, 10, 18, "999999999999999999", api.OK)
	expectFormat(t, 1<<54-1, 8, 18, "777777777777777777", api.OK)
}

// P1.1: every width, with numbers that just fit it and that just don't.
func TestFormatEveryWidth(t *testing.T) {
	for _, base := range bases {
		for width := 1; width <= greatestWidth; width++ {
			for _, n := range powersAround(base) {
				want, fits := fieldOf(n, base, width)
				wantErr := api.OK
				if !fits {
					wantErr = api.ErrFit
				}
				expectFormat(t, n, base, width, want, wantErr)
			}
		}
	}
}

// P1.1: what does not fit.
func TestFormatErrFit(t *testing.T) {
	for _, base := range bases {
		for _, width := range []int{1, 2, 17, 18} {
			for _, n := range []int{-1, -8, -10, math.MinInt + 1, math.MinInt, math.MaxInt} {
				expectFormat(t, n, base, width, "", api.ErrFit)
			}
		}
	}
	expectFormat(t, 8, 8, 1, "", api.ErrFit)
	expectFormat(t, 10, 10, 1, "", api.ErrFit)
	expectFormat(t, 1<<54, 8, 18, "", api.ErrFit)
	expectFormat(t, 1000000000000000000, 10, 18, "", api.ErrFit)
}

// P1.1: a wrong base or width is reported before a number that does not fit.
func TestFormatErrArg(t *testing.T) {
	for _, n := range []int{0, 5, -1, math.MinInt, math.MaxInt} {
		for _, base := range wrongBases {
			for _, width := range []int{-1, 0, 1, 5, 18, 19} {
				expectFormat(t, n, base, width, "", api.ErrArg)
			}
		}
		for _, base := range bases {
			for _, width := range []int{math.MinInt, -1, 0, 19, 20, 256, 257, math.MaxInt} {
				expectFormat(t, n, base, width, "", api.ErrArg)
			}
		}
	}
}

// P1.2: fields of every width.
func TestParseFields(t *testing.T) {
	expectParse(t, "644     ", 8, 420, api.OK)
	expectParse(t, "0", 10, 0, api.OK)
	expectParse(t, "0 ", 8, 0, api.OK)
	expectParse(t, "999999999999999999", 10, 999999999999999999, api.OK)
	expectParse(t, "777777777777777777", 8, 1<<54-1, api.OK)
	for _, base := range bases {
		for width := 1; width <= greatestWidth; width++ {
			for _, n := range powersAround(base) {
				if field, fits := fieldOf(n, base, width); fits {
					expectParse(t, field, base, n, api.OK)
				}
			}
		}
	}
}

// P1.2: malformed fields, among them the chapter's examples.
func TestParseErrField(t *testing.T) {
	for _, base := range bases {
		for _, b := range []string{
			"07 ", " 7", "00", "00 ", "01", "000000000000000000", "000000000000000001", " ", "   ", "                  ", " 0", "1 2", "1 0", "0 0", "1  1",
			"-1", "+1", "-0", "1x", "x", "a", "A", "0x1", "0o7", "1_0", "1.", "1\t", "1\n", "1\x00", "\x00", "1/", "/", "1:", ":", "1\xb1", "1\xa0", "\u0661", "1 \t", "1 \x00 ", "1234567890123456 x", "12345678901234567x",
		} {
			expectParse(t, b, base, 0, api.ErrField)
		}
	}
	for _, b := range []string{"8", "9", "8 ", "18", "77777777777777778", "1 9"} {
		expectParse(t, b, 8, 0, api.ErrField)
	}
}

// P1.2: a wrong base or length is reported before a malformed field.
func TestParseErrArg(t *testing.T) {
	for _, base := range wrongBases {
		for _, b := range []string{"", "0", "1 ", "x", " ", strings.Repeat("1", 19)} {
			expectParse(t, b, base, 0, api.ErrArg)
		}
	}
	for _, base := range bases {
		for _, b := range []string{"", strings.Repeat("1", 19), "1" + strings.Repeat(" ", 18), strings.Repeat("x", 19), strings.Repeat(" ", 19), "1" + strings.Repeat(" ", 256)} {
			expectParse(t, b, base, 0, api.ErrArg)
		}
		if n, err := decfield.Parse(nil, base); n != 0 || err != api.ErrArg {
			t.Errorf("Parse(nil, %d) = %d, %d", base, n, err)
		}
	}
}

// P1.3: digits of numbers, and arguments that have none.
func TestDigits(t *testing.T) {
	for _, base := range bases {
		for _, n := range powersAround(base) {
			if got, want := decfield.Digits(n, base), len(strconv.FormatInt(int64(n), base)); got != want {
				t.Errorf("Digits(%d, %d) = %d; want %d", n, base, got, want)
			}
		}
		for _, n := range []int{-1, -8, -10, -100, math.MinInt} {
			if got := decfield.Digits(n, base); got != 0 {
				t.Errorf("Digits(%d, %d) = %d; want 0", n, base, got)
			}
		}
	}
	for _, base := range wrongBases {
		for _, n := range []int{math.MinInt, -1, 0, 1, 100, math.MaxInt} {
			if got := decfield.Digits(n, base); got != 0 {
				t.Errorf("Digits(%d, %d) = %d; want 0", n, base, got)
			}
		}
	}
}

// P1.3: spaces only, of any length.
func TestBlank(t *testing.T) {
	for _, b := range [][]byte{nil, {}, []byte(" "), []byte("  "), bytes.Repeat([]byte(" "), 18), bytes.Repeat([]byte(" "), 1000)} {
		if !decfield.Blank(b) {
			t.Errorf("Blank(%q) is false", b)
		}
	}
	for c := range 256 {
		if got := decfield.Blank([]byte{byte(c)}); got != (c == ' ') {
			t.Errorf("Blank of the byte %d is %v", c, got)
		}
	}
	for _, b := range []string{"0 ", " 0", " 0 ", "\t ", " \n", " \x00", strings.Repeat(" ", 999) + "x", "x" + strings.Repeat(" ", 999), "\u00a0", " \u2003"} {
		if decfield.Blank([]byte(b)) {
			t.Errorf("Blank(%q) is true", b)
		}
	}
}

// P1.4: of all byte strings of a small width, exactly the fields of the numbers that fit are parsed, each to its number.
func TestOneFieldPerNumber(t *testing.T) {
	alphabets := map[int]string{1: everyByte(), 2: everyByte(), 3: " 0123456789/:x\x00", 4: " 012789x"}
	for _, base := range bases {
		limit := 1
		for width := 1; width <= 4; width++ {
			limit *= base
			numbers := map[string]int{}
			for n := range limit {
				field, err := decfield.Format(n, base, width)
				if earlier, known := numbers[string(field)]; known || err != api.OK {
					t.Fatalf("Format(%d, %d, %d) = %q, %d; it is that of %d", n, base, width, field, err, earlier)
				}
				numbers[string(field)] = n
				expectParse(t, string(field), base, n, api.OK)
			}
			expectFormat(t, limit, base, width, "", api.ErrFit)
			stringsOver(alphabets[width], width, func(b []byte) {
				n, isField := numbers[string(b)]
				got, err := decfield.Parse(b, base)
				if got != n || (err == api.OK) != isField || !isField && err != api.ErrField {
					t.Fatalf("Parse(%q, %d) = %d, %d; want %d, a field: %v", b, base, got, err, n, isField)
				}
			})
		}
	}
}

// P1.5: neither the bytes of an argument nor those behind it change.
func TestArgumentsUnchanged(t *testing.T) {
	for _, text := range []string{"644     ", "07 ", "        ", "12x4", "999999999999999999", ""} {
		whole := []byte(text + "#####")
		b := whole[:len(text)]
		for _, base := range []int{8, 10, 16} {
			decfield.Parse(b, base)
		}
		decfield.Blank(b)
		if string(whole) != text+"#####" {
			t.Errorf("%q was changed to %q", text, whole)
		}
	}
}

// P1.5: a result changes neither with a later call nor with another result, and no later call sees what was written to it or behind it.
func TestResultsAreNew(t *testing.T) {
	const want = "644     "
	first, _ := decfield.Format(420, 8, 8)
	second, _ := decfield.Format(420, 8, 8)
	decfield.Format(7, 10, 18)
	if string(first) != want || string(second) != want {
		t.Errorf("after another call, the fields are %q and %q", first, second)
	}
	whole := first[:cap(first)]
	for i := range whole {
		whole[i] = '#'
	}
	if string(second) != want {
		t.Errorf("after a change of the first field, the second is %q", second)
	}
	expectFormat(t, 420, 8, 8, want, api.OK)
}
