package text

import (
	"strconv"
	"strings"

	"scorebook/api"
)

const (
	maxName  = 16 // bytes of a name
	maxWidth = 20 // digits up to which numbers are padded
)

// Name reports whether s is a name.
func Name(s string) bool {
	if s == "" || len(s) > maxName || !isCapital(s[0]) {
		return false
	}
	for i := range len(s) {
		if !isCapital(s[i]) && !isDigit(s[i]) && s[i] != '_' && s[i] != '-' {
			return false
		}
	}
	return true
}

func isCapital(b byte) bool { return b >= 'A' && b <= 'Z' }

func isDigit(b byte) bool { return b >= '0' && b <= '9' }

// Number returns the integer of a decimal from lo to hi.
func Number(s string, lo, hi int64) (int64, api.Errno) {
	if !isDecimal(s) {
		return 0, api.ErrForm
	}
	// ParseInt refuses a decimal only if it is out of range.
	n, bad := strconv.ParseInt(s, 10, 64)
	if bad != nil || n < lo || n > hi {
		return 0, api.ErrRange
	}
	return n, api.OK
}

// isDecimal reports whether a string is the decimal of an integer of any size.
func isDecimal(s string) bool {
	digits := strings.TrimPrefix(s, "-")
	if digits == "" {
		return false
	}
	for i := range len(digits) {
		if !isDigit(digits[i]) {
			return false
		}
	}
	return digits[0] != '0' || s == "0"
}

// Decimal returns the decimal of an integer.
func Decimal(n int64) string { return strconv.FormatInt(n, 10) }

// Padded returns the decimal of an integer with leading zeros up to a width.
func Padded(n int64, width int) string {
	digits, negative := strings.CutPrefix(Decimal(n), "-")
	// The width is compared first, as it may be too small to subtract from.
	if width = min(width, maxWidth); width > len(digits) {
		digits = strings.Repeat("0", width-len(digits)) + digits
	}
	if negative {
		return "-" + digits
	}
	return digits
}
