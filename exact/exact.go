// Package exact has exact rational numbers with bounded parts.
package exact

import (
	"math"
	"strconv"
	"strings"

	"scorebook/api"
)

// maxPlaces is the greatest number of places of a decimal.
const maxPlaces = 9

// Gcd returns the greatest common divisor of the sizes of two numbers; 0 if both are 0, or if one of them has no size in 64 bits.
func Gcd(a, b int64) int64 {
	if a == math.MinInt64 || b == math.MinInt64 {
		return 0
	}
	a, b = size(a), size(b)
	for b != 0 {
		a, b = b, a%b
	}
	return a
}

// size returns the absolute value of a number that is not -2^63.
func size(n int64) int64 {
	if n < 0 {
		return -n
	}
	return n
}

// Make returns the reduced ratio n/d.
func Make(n, d int64) (api.Ratio, api.Errno) {
	if d == 0 {
		return api.Ratio{}, api.ErrArg
	}
	if n == math.MinInt64 || d == math.MinInt64 {
		return api.Ratio{}, api.ErrRange
	}
	g := Gcd(n, d)
	if d < 0 {
		n, d = -n, -d
	}
	r := api.Ratio{Num: n / g, Den: d / g}
	if !bounded(r) {
		return api.Ratio{}, api.ErrRange
	}
	return r, api.OK
}

// bounded reports whether both parts of a ratio are within their bounds.
func bounded(r api.Ratio) bool {
	return r.Den >= 1 && r.Den <= api.MaxRatio && r.Num >= -api.MaxRatio && r.Num <= api.MaxRatio
}

// Valid reports whether a ratio is reduced and within its bounds.
func Valid(r api.Ratio) bool { return bounded(r) && Gcd(r.Num, r.Den) == 1 }

// Neg returns -a.
func Neg(a api.Ratio) (api.Ratio, api.Errno) {
	if !Valid(a) {
		return api.Ratio{}, api.ErrArg
	}
	return Make(-a.Num, a.Den)
}

// Add returns a + b.
func Add(a, b api.Ratio) (api.Ratio, api.Errno) {
	if !Valid(a) || !Valid(b) {
		return api.Ratio{}, api.ErrArg
	}
	return sum(a, b)
}

// Sub returns a - b.
func Sub(a, b api.Ratio) (api.Ratio, api.Errno) {
	if !Valid(a) || !Valid(b) {
		return api.Ratio{}, api.ErrArg
	}
	return sum(a, api.Ratio{Num: -b.Num, Den: b.Den})
}

// sum returns a + b of valid ratios.
// A part reaches 2^31 only where the other part of its ratio does not, so at most one of the two products reaches 2^62, and their sum fits.
func sum(a, b api.Ratio) (api.Ratio, api.Errno) {
	return Make(a.Num*b.Den+b.Num*a.Den, a.Den*b.Den)
}

// Mul returns a * b.
func Mul(a, b api.Ratio) (api.Ratio, api.Errno) {
	if !Valid(a) || !Valid(b) {
		return api.Ratio{}, api.ErrArg
	}
	return Make(a.Num*b.Num, a.Den*b.Den)
}

// Div returns a / b.
func Div(a, b api.Ratio) (api.Ratio, api.Errno) {
	if !Valid(a) || !Valid(b) {
		return api.Ratio{}, api.ErrArg
	}
	// For a b of 0 the new denominator is 0, which Make refuses with the ErrArg that is asked for.
	return Make(a.Num*b.Den, a.Den*b.Num)
}

// Cmp returns -1, 0 or 1 as a is less than, equal to, or greater than b; 0 if one of them is not valid.
func Cmp(a, b api.Ratio) int {
	if !Valid(a) || !Valid(b) {
		return 0
	}
	left, right := a.Num*b.Den, b.Num*a.Den
	switch {
	case left < right:
		return -1
	case left > right:
		return 1
	}
	return 0
}

// FloorDiv returns n / d, rounded down.
func FloorDiv(n, d int64) (int64, api.Errno) {
	if e := quotient(n, d); e != api.OK {
		return 0, e
	}
	q := n / d
	if n%d != 0 && (n < 0) != (d < 0) {
		q--
	}
	return q, api.OK
}

// CeilDiv returns n / d, rounded up.
func CeilDiv(n, d int64) (int64, api.Errno) {
	if e := quotient(n, d); e != api.OK {
		return 0, e
	}
	q := n / d
	if n%d != 0 && (n < 0) == (d < 0) {
		q++
	}
	return q, api.OK
}

// quotient returns the error of a rounded quotient n / d.
func quotient(n, d int64) api.Errno {
	if d == 0 {
		return api.ErrArg
	}
	if n == math.MinInt64 && d == -1 {
		return api.ErrRange
	}
	return api.OK
}

// Floor returns the greatest integer that is at most a.
func Floor(a api.Ratio) (int64, api.Errno) {
	if !Valid(a) {
		return 0, api.ErrArg
	}
	return FloorDiv(a.Num, a.Den)
}

// Ceil returns the least integer that is at least a.
func Ceil(a api.Ratio) (int64, api.Errno) {
	if !Valid(a) {
		return 0, api.ErrArg
	}
	return CeilDiv(a.Num, a.Den)
}

// Round returns the nearest integer, the greater one of two.
func Round(a api.Ratio) (int64, api.Errno) {
	if !Valid(a) {
		return 0, api.ErrArg
	}
	return FloorDiv(2*a.Num+a.Den, 2*a.Den)
}

// Decimal returns a ratio in decimal with so many places, rounded to the nearest, halves away from zero.
func Decimal(a api.Ratio, places int) (string, api.Errno) {
	if !Valid(a) {
		return "", api.ErrArg
	}
	if places < 0 || places > maxPlaces {
		return "", api.ErrRange
	}
	scaled := size(a.Num)
	for range places {
		scaled *= 10
	}
	rounded := (2*scaled + a.Den) / (2 * a.Den)
	digits := pointed(strconv.FormatInt(rounded, 10), places)
	if a.Num < 0 && rounded != 0 {
		return "-" + digits, api.OK
	}
	return digits, api.OK
}

// pointed puts a point before the last places digits, with zeros in front so that a digit stands before it.
func pointed(digits string, places int) string {
	if places == 0 {
		return digits
	}
	if short := places + 1 - len(digits); short > 0 {
		digits = strings.Repeat("0", short) + digits
	}
	whole := len(digits) - places
	return digits[:whole] + "." + digits[whole:]
}

// Text returns the text of a ratio, which is empty if it is not valid.
func Text(a api.Ratio) string {
	if !Valid(a) {
		return ""
	}
	return strconv.FormatInt(a.Num, 10) + "/" + strconv.FormatInt(a.Den, 10)
}

// Parse returns the ratio with a text.
func Parse(s string) (api.Ratio, api.Errno) {
	left, right, _ := strings.Cut(s, "/")
	n, bad := strconv.ParseInt(left, 10, 64)
	d, wrong := strconv.ParseInt(right, 10, 64)
	if bad != nil || wrong != nil {
		return api.Ratio{}, api.ErrForm
	}
	// ParseInt accepts signs and leading zeros that no Text has.
	r := api.Ratio{Num: n, Den: d}
	if !Valid(r) || Text(r) != s {
		return api.Ratio{}, api.ErrForm
	}
	return r, api.OK
}
