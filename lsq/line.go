package lsq

import (
	"scorebook/api"
	"scorebook/exact"
	"scorebook/wide"
)

// Limits of an accepted line. With them each deviation of a point, times the denominator, has 64 bits, and so has twice each numerator of a value.
const (
	maxD = 1 << 40
	maxA = 1 << 60
	maxB = 1 << 46
)

// Line returns the line with the least sum of squares.
func Line(l []Point) (api.Fit, api.Errno) {
	if e := checkPoints(l); e != api.OK {
		return api.Fit{}, e
	}
	if sameTime(l) {
		return api.Fit{}, api.ErrSingular
	}
	n := int64(len(l))
	var s, q, u, w int64
	for _, p := range l {
		s += p.T
		q += p.T * p.T
		u += p.V
		w += p.T * p.V
	}
	return api.Fit{A: q*u - s*w, B: n*w - s*u, D: n*q - s*s}, api.OK
}

// checkPoints returns the error of points that may have the same time.
func checkPoints(l []Point) api.Errno {
	if len(l) > api.MaxSeen {
		return api.ErrLimit
	}
	if len(l) < 2 {
		return api.ErrArg
	}
	for _, p := range l {
		if !inTime(p.T) || beyond(p.V, MaxValue) {
			return api.ErrRange
		}
	}
	return api.OK
}

// inTime reports whether a time is one.
func inTime(t int64) bool { return t >= 0 && t <= MaxTime }

// sameTime reports whether all points have the time of the first one.
func sameTime(l []Point) bool {
	for _, p := range l {
		if p.T != l[0].T {
			return false
		}
	}
	return true
}

// accepted reports whether a line is within its limits.
func accepted(f api.Fit) bool {
	return f.D >= 1 && f.D <= maxD && !beyond(f.A, maxA) && !beyond(f.B, maxB)
}

// At returns the value of a line at a time, rounded to the nearest integer, halfway up.
func At(f api.Fit, t int64) (int64, api.Errno) {
	if !accepted(f) {
		return 0, api.ErrArg
	}
	if !inTime(t) {
		return 0, api.ErrRange
	}
	return exact.FloorDiv(2*(f.A+f.B*t)+f.D, 2*f.D)
}

// deviation returns the deviation of an accepted point from an accepted line, times the denominator.
func deviation(p Point, f api.Fit) int64 { return f.D*p.V - f.A - f.B*p.T }

// Residual returns the sum of the squares of the deviations from a line, times the square of its denominator.
func Residual(l []Point, f api.Fit) (api.Wide, api.Errno) {
	if e := checkPoints(l); e != api.OK {
		return api.Wide{}, e
	}
	if !accepted(f) {
		return api.Wide{}, api.ErrArg
	}
	var total api.Wide
	for _, p := range l {
		d := deviation(p, f)
		next, ok := wide.Add(total, wide.Mul(d, d))
		// Squares do not take away: the whole sum is too large if a part of it is.
		if !ok {
			return api.Wide{}, api.ErrRange
		}
		total = next
	}
	return total, api.OK
}

// Accept reports whether the deviations from a line add up to 0, and so do those times the times: no line has a lesser sum of squares.
func Accept(l []Point, f api.Fit) bool {
	if checkPoints(l) != api.OK || !accepted(f) {
		return false
	}
	var plain, timed api.Wide
	for _, p := range l {
		d := deviation(p, f)
		// The sums of at most api.MaxSeen of these fit.
		plain, _ = wide.Add(plain, wide.Of(d))
		timed, _ = wide.Add(timed, wide.Mul(d, p.T))
	}
	return wide.Sign(plain) == 0 && wide.Sign(timed) == 0
}
