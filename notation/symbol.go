package notation

import (
	"strings"

	"scorebook/api"
	"scorebook/text"
)

// Signs, in the order of the constants for which they stand.
const (
	typeSigns     = "wn" // Fair, the first type, has none
	sourceSigns   = ".obl"
	boundarySigns = "FS" // of 4 and 6
	howSigns      = "NBCLSHRTOMQ"
	digits        = "0123456789"
)

// Print returns the symbol of a delivery.
func Print(d api.Delivery) (string, api.Errno) {
	if e := Check(d); e != api.OK {
		return "", e
	}
	return typeSign(d.Type) + sourceSign(d) + runsSign(d) + boundarySign(d.Boundary) + numberSign("-", d.Short) +
		flagSign("x", d.Crossed) + wicketSign(d) + numberSign("@", d.Sector), api.OK
}

func typeSign(t api.Type) string {
	if t == api.Fair {
		return ""
	}
	return sign(typeSigns, int(t-api.WideBall))
}

// sign returns one sign of several.
func sign(signs string, i int) string { return signs[i : i+1] }

func sourceSign(d api.Delivery) string {
	if d.Source == plainSource(d.Type) {
		return ""
	}
	return sign(sourceSigns, int(d.Source))
}

// plainSource returns the source that has no sign beside a type.
func plainSource(t api.Type) api.Source {
	if t == api.WideBall {
		return api.NoRuns
	}
	return api.OffBat
}

// runsSign returns the digit of the runs; 0 is written where nothing else tells of runs, but not of a wide.
func runsSign(d api.Delivery) string {
	bare := d.Type != api.WideBall && d.Source == plainSource(d.Type) && d.Boundary == 0
	if d.Runs == 0 && !bare {
		return ""
	}
	return sign(digits, d.Runs)
}

func boundarySign(n int) string {
	if n == 0 {
		return ""
	}
	return sign(boundarySigns, n/2-2)
}

// numberSign returns a number behind a mark, nothing for 0.
func numberSign(mark string, n int) string {
	if n == 0 {
		return ""
	}
	return mark + text.Decimal(int64(n))
}

// flagSign returns a mark if a flag is set.
func flagSign(mark string, set bool) string {
	if set {
		return mark
	}
	return ""
}

func wicketSign(d api.Delivery) string {
	fielders := fielderSign(d)
	if d.How == api.NotOut && d.Victim == 0 && fielders == "" {
		return ""
	}
	return "/" + sign(howSigns, int(d.How)) + sign(digits, d.Victim) + fielders
}

func fielderSign(d api.Delivery) string {
	if d.Fielder == 0 && d.Second == 0 && !d.Sub {
		return ""
	}
	return "(" + text.Decimal(int64(d.Fielder)) + numberSign(",", d.Second) + flagSign("s", d.Sub) + ")"
}

// Parse returns the delivery with a symbol.
func Parse(s string) (api.Delivery, api.Errno) {
	d := read(s)
	// What is read need not be all of s, or may be written in another way: Print decides.
	if symbol, e := Print(d); e != api.OK || symbol != s {
		return api.Delivery{}, api.ErrForm
	}
	return d, api.OK
}

// read returns the delivery with a symbol, and some delivery if s is none.
func read(s string) api.Delivery {
	r := reader{s}
	d := api.Delivery{Type: api.Fair}
	if i := r.sign(typeSigns); i >= 0 {
		d.Type = api.WideBall + api.Type(i)
	}
	d.Source = plainSource(d.Type)
	if i := r.sign(sourceSigns); i >= 0 {
		d.Source = api.Source(i)
	}
	d.Runs = r.number()
	if i := r.sign(boundarySigns); i >= 0 {
		d.Boundary = 4 + 2*i
	}
	if r.flag("-") {
		d.Short = r.number()
	}
	d.Crossed = r.flag("x")
	if r.flag("/") {
		readWicket(&r, &d)
	}
	if r.flag("@") {
		d.Sector = r.number()
	}
	return d
}

// readWicket reads how a batter is out into a delivery.
func readWicket(r *reader, d *api.Delivery) {
	if i := r.sign(howSigns); i >= 0 {
		d.How = api.How(i)
	}
	d.Victim = r.number()
	if !r.flag("(") {
		return
	}
	d.Fielder = r.number()
	if r.flag(",") {
		d.Second = r.number()
	}
	d.Sub = r.flag("s")
	r.flag(")")
}

// reader reads a symbol from left to right.
type reader struct{ rest string }

// sign reads the next sign if it is one of several, and returns its index among them, otherwise -1.
func (r *reader) sign(signs string) int {
	if r.rest == "" {
		return -1
	}
	i := strings.IndexByte(signs, r.rest[0])
	if i >= 0 {
		r.rest = r.rest[1:]
	}
	return i
}

// flag reads the next sign if it is a mark, and reports whether it is.
func (r *reader) flag(mark string) bool { return r.sign(mark) == 0 }

// number reads the digits of a number, 0 if there are none; it leaves the digits behind a number that is too great already.
func (r *reader) number() int {
	n := 0
	for n <= api.MaxSide {
		i := r.sign(digits)
		if i < 0 {
			break
		}
		n = 10*n + i
	}
	return n
}

// Over returns the symbols of deliveries, with blanks between.
func Over(l []api.Delivery) (string, api.Errno) {
	symbols := make([]string, 0, len(l))
	for _, d := range l {
		s, e := Print(d)
		if e != api.OK {
			return "", e
		}
		symbols = append(symbols, s)
	}
	return strings.Join(symbols, " "), api.OK
}

// ParseOver returns the deliveries with these symbols.
func ParseOver(s string) ([]api.Delivery, api.Errno) {
	if s == "" {
		return nil, api.OK
	}
	var l []api.Delivery
	for _, symbol := range strings.Split(s, " ") {
		d, e := Parse(symbol)
		if e != api.OK {
			return nil, e
		}
		l = append(l, d)
	}
	return l, api.OK
}
