// Package decfield formats and parses the numeric fields of archive headers. It is layer 1: see shared/doc/01-decfield.md.
package decfield

import (
	"arlink/api"
)

// maxWidth is the width of the widest field. Every number of so many digits fits an int, so parsing cannot overflow.
const maxWidth = 18

// Digits returns the number of digits of n in the base; 0 if n is negative or the base is neither 8 nor 10.
func Digits(n, base int) int {
	if n < 0 || !validBase(base) {
		return 0
	}
	count := 1
	for rest := n / base; rest > 0; rest /= base {
		count++
	}
	return count
}

// Format returns the field of n: its digits in the base, and spaces up to the width.
func Format(n, base, width int) ([]byte, api.Errno) {
	if !validBase(base) || !validWidth(width) {
		return nil, api.ErrArg
	}
	if n < 0 || Digits(n, base) > width {
		return nil, api.ErrFit
	}
	field := appendDigits(make([]byte, 0, width), n, base)
	for len(field) < width {
		field = append(field, ' ')
	}
	return field, api.OK
}

// Parse returns the number whose field is b.
func Parse(b []byte, base int) (int, api.Errno) {
	if !validBase(base) || !validWidth(len(b)) {
		return 0, api.ErrArg
	}
	n, count := 0, 0
digits:
	for i, c := range b {
		switch {
		case isDigit(c, base):
			n = n*base + int(c-'0')
			count++
		case Blank(b[i:]):
			break digits
		default:
			return 0, api.ErrField
		}
	}
	// A field without digits has too few for its number, and one with a superfluous leading zero too many.
	if count != Digits(n, base) {
		return 0, api.ErrField
	}
	return n, api.OK
}

// Blank reports whether b consists of spaces only.
func Blank(b []byte) bool {
	for _, c := range b {
		if c != ' ' {
			return false
		}
	}
	return true
}

func validBase(base int) bool {
	return base == 8 || base == 10
}

func validWidth(width int) bool {
	return 1 <= width && width <= maxWidth
}

func isDigit(c byte, base int) bool {
	return '0' <= c && int(c) < '0'+base
}

// appendDigits appends the digits of n, the most significant one first.
func appendDigits(b []byte, n, base int) []byte {
	count := Digits(n, base)
	unit := 1
	for range count - 1 {
		unit *= base
	}
	for range count {
		b = append(b, byte('0'+n/unit%base))
		unit /= base
	}
	return b
}
