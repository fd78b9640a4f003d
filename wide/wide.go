// Package wide has integers of 128 bits.
package wide

import (
	"cmp"
	"math/bits"

	"scorebook/api"
)

// maxText is the length of the longest text, that of -2^127.
const maxText = 40

// magnitude is an unsigned integer of 128 bits, hi * 2^64 + lo: the size of a wide integer.
type magnitude struct{ hi, lo uint64 }

// sizeOf returns the size of a wide integer.
func sizeOf(a api.Wide) magnitude {
	if a.Hi < 0 {
		a = negated(a)
	}
	return magnitude{uint64(a.Hi), a.Lo}
}

// negated returns -a, which is a again for the least one: its 128 bits, read without a sign, are its size.
func negated(a api.Wide) api.Wide {
	lo, borrow := bits.Sub64(0, a.Lo, 0)
	hi, _ := bits.Sub64(0, uint64(a.Hi), borrow)
	return api.Wide{Hi: int64(hi), Lo: lo}
}

// size64 returns the size of an integer.
func size64(n int64) uint64 {
	if n < 0 {
		return -uint64(n)
	}
	return uint64(n)
}

// signed returns the wide integer of a size and a sign, and whether it fits.
func signed(m magnitude, negative bool) (api.Wide, bool) {
	w := api.Wide{Hi: int64(m.hi), Lo: m.lo}
	if negative {
		w = negated(w)
	}
	// A size that is too large wraps to the other sign.
	if sign := Sign(w); sign != 0 && (sign < 0) != negative {
		return api.Wide{}, false
	}
	return w, true
}

// times returns m * n, and whether it has at most 128 bits.
func (m magnitude) times(n uint64) (magnitude, bool) {
	carry, lo := bits.Mul64(m.lo, n)
	over, hi := bits.Mul64(m.hi, n)
	hi, more := bits.Add64(hi, carry, 0)
	return magnitude{hi, lo}, over == 0 && more == 0
}

// plus returns m + n, and whether it has at most 128 bits.
func (m magnitude) plus(n uint64) (magnitude, bool) {
	lo, carry := bits.Add64(m.lo, n, 0)
	hi, more := bits.Add64(m.hi, 0, carry)
	return magnitude{hi, lo}, more == 0
}

// over returns the quotient and the rest of m / n; n is not 0.
func (m magnitude) over(n uint64) (magnitude, uint64) {
	hi, rest := m.hi/n, m.hi%n
	lo, rest := bits.Div64(rest, m.lo, n)
	return magnitude{hi, lo}, rest
}

// Of returns an integer as a wide one.
func Of(n int64) api.Wide { return api.Wide{Hi: n >> 63, Lo: uint64(n)} }

// Add returns a + b, and whether it fits.
func Add(a, b api.Wide) (api.Wide, bool) {
	lo, carry := bits.Add64(a.Lo, b.Lo, 0)
	hi, _ := bits.Add64(uint64(a.Hi), uint64(b.Hi), carry)
	w := api.Wide{Hi: int64(hi), Lo: lo}
	if (a.Hi < 0) == (b.Hi < 0) && (w.Hi < 0) != (a.Hi < 0) {
		return api.Wide{}, false
	}
	return w, true
}

// Sub returns a - b, and whether it fits.
func Sub(a, b api.Wide) (api.Wide, bool) {
	lo, borrow := bits.Sub64(a.Lo, b.Lo, 0)
	hi, _ := bits.Sub64(uint64(a.Hi), uint64(b.Hi), borrow)
	w := api.Wide{Hi: int64(hi), Lo: lo}
	if (a.Hi < 0) != (b.Hi < 0) && (w.Hi < 0) != (a.Hi < 0) {
		return api.Wide{}, false
	}
	return w, true
}

// Neg returns -a, and whether it fits.
func Neg(a api.Wide) (api.Wide, bool) { return Sub(api.Wide{}, a) }

// Mul returns a * b.
func Mul(a, b int64) api.Wide {
	hi, lo := bits.Mul64(size64(a), size64(b))
	w, _ := signed(magnitude{hi, lo}, (a < 0) != (b < 0))
	return w
}

// Scale returns a * n, and whether it fits.
func Scale(a api.Wide, n int64) (api.Wide, bool) {
	m, ok := sizeOf(a).times(size64(n))
	if !ok {
		return api.Wide{}, false
	}
	return signed(m, (a.Hi < 0) != (n < 0))
}

// Div returns a / d, rounded so that the rest is from 0 to the size of d, less 1; false if d is 0 or the quotient does not fit.
func Div(a api.Wide, d int64) (q api.Wide, rest uint64, ok bool) {
	if d == 0 {
		return api.Wide{}, 0, false
	}
	m, rest := sizeOf(a).over(size64(d))
	if a.Hi < 0 && rest != 0 {
		// One more of d makes the rest positive. The size of d is at least 2 here, so the quotient has room for it.
		m, _ = m.plus(1)
		rest = size64(d) - rest
	}
	q, ok = signed(m, (a.Hi < 0) != (d < 0))
	if !ok {
		return api.Wide{}, 0, false
	}
	return q, rest, true
}

// Cmp returns -1, 0 or 1 as a is less than, equal to, or greater than b.
func Cmp(a, b api.Wide) int {
	return cmp.Or(cmp.Compare(a.Hi, b.Hi), cmp.Compare(a.Lo, b.Lo))
}

// Sign returns -1, 0 or 1.
func Sign(a api.Wide) int { return Cmp(a, api.Wide{}) }

// Fits returns the integer, and whether it has 64 bits.
func Fits(a api.Wide) (int64, bool) {
	n := int64(a.Lo)
	if Of(n) != a {
		return 0, false
	}
	return n, true
}

// Text returns a wide integer in decimal.
func Text(a api.Wide) string {
	var buffer [maxText]byte
	at := len(buffer)
	m := sizeOf(a)
	for {
		var digit uint64
		m, digit = m.over(10)
		at--
		buffer[at] = '0' + byte(digit)
		if m == (magnitude{}) {
			break
		}
	}
	if a.Hi < 0 {
		at--
		buffer[at] = '-'
	}
	return string(buffer[at:])
}

// Parse returns the wide integer with a text.
func Parse(s string) (api.Wide, api.Errno) {
	if len(s) > maxText {
		return api.Wide{}, api.ErrForm
	}
	digits, negative := s, false
	if s != "" && s[0] == '-' {
		digits, negative = s[1:], true
	}
	m, ok := parseDigits(digits)
	if !ok {
		return api.Wide{}, api.ErrForm
	}
	w, ok := signed(m, negative)
	// The comparison refuses what no Text has: no digits, leading zeros, and "-0".
	if !ok || Text(w) != s {
		return api.Wide{}, api.ErrForm
	}
	return w, api.OK
}

// parseDigits returns the number with these digits; false if there is another byte, or the number has more than 128 bits.
func parseDigits(s string) (magnitude, bool) {
	var m magnitude
	for i := range len(s) {
		if s[i] < '0' || s[i] > '9' {
			return magnitude{}, false
		}
		ten, ok := m.times(10)
		if !ok {
			return magnitude{}, false
		}
		if m, ok = ten.plus(uint64(s[i] - '0')); !ok {
			return magnitude{}, false
		}
	}
	return m, true
}
