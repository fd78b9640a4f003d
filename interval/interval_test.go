package interval_test

import (
	"math"
	"math/big"
	"math/rand"
	"strconv"
	"strings"
	"testing"

	"scorebook/api"
	"scorebook/interval"
)

const (
	least = math.MinInt64
	most  = math.MaxInt64
	end   = interval.Most
)

func of(lo, hi int64) api.Range { return api.Range{Lo: lo, Hi: hi} }

// edges are integers at which something changes, and others that follow from a fixed seed.
func edges() []int64 {
	out := []int64{0, least, least + 1}
	for _, n := range []int64{1, 2, 3, 4, 5, 6, 7, 9, 10, 1000, 1 << 31, 1 << 32, end / 3, end/2 - 1, end / 2, end/2 + 1, end - 1, end, end + 1, most - 1, most} {
		out = append(out, n, -n)
	}
	source := rand.New(rand.NewSource(29))
	for range 6 {
		n := int64(source.Uint64())
		out = append(out, n, n>>2, n>>40)
	}
	return out
}

// pairs are structures of ranges, of which some are not valid.
func pairs() []api.Range {
	out := []api.Range{}
	for _, lo := range edges() {
		for _, hi := range edges() {
			out = append(out, of(lo, hi))
		}
	}
	return out
}

// few returns every so many of a list.
func few(l []api.Range, step int) []api.Range {
	out := []api.Range{}
	for i := 0; i < len(l); i += step {
		out = append(out, l[i])
	}
	return out
}

// isRange restates what makes a range valid.
func isRange(r api.Range) bool {
	return r.Lo <= r.Hi && r.Lo >= -end && r.Lo <= end && r.Hi >= -end && r.Hi <= end
}

func wrongRanges() []api.Range {
	return []api.Range{of(1, 0), of(end, -end), of(0, end+1), of(-end-1, 0), of(end+1, end+1), of(-end-1, -end-1), of(least, most), of(most, least), of(least, least), of(most, most)}
}

// spanned returns the range from the least to the greatest of some exact results, or ErrRange.
func spanned(l ...*big.Int) (api.Range, api.Errno) {
	lo, hi := l[0], l[0]
	for _, n := range l {
		if n.Cmp(lo) < 0 {
			lo = n
		}
		if n.Cmp(hi) > 0 {
			hi = n
		}
	}
	if lo.Cmp(big.NewInt(-end)) < 0 || hi.Cmp(big.NewInt(end)) > 0 {
		return api.Range{}, api.ErrRange
	}
	return of(lo.Int64(), hi.Int64()), api.OK
}

// results counts how often each error occurs, so that a test knows that it meets them all.
type results map[api.Errno]int

func (met results) need(t *testing.T, l ...api.Errno) {
	t.Helper()
	for _, e := range l {
		if met[e] == 0 {
			t.Errorf("no case has the error %d", e)
		}
	}
}

func check(t *testing.T, what string, a, b any, got api.Range, e api.Errno, want api.Range, wantE api.Errno) {
	t.Helper()
	if got != want || e != wantE {
		t.Fatalf("%s of %v and %v = %v, %d; want %v, %d", what, a, b, got, e, want, wantE)
	}
}

// P29.1

func TestMakeAndValid(t *testing.T) {
	met := results{}
	for _, r := range pairs() {
		want, wantE := r, api.OK
		switch {
		case r.Lo > r.Hi:
			want, wantE = api.Range{}, api.ErrArg
		case !isRange(r):
			want, wantE = api.Range{}, api.ErrRange
		}
		got, e := interval.Make(r.Lo, r.Hi)
		check(t, "Make", r.Lo, r.Hi, got, e, want, wantE)
		if v := interval.Valid(r); v != (wantE == api.OK) {
			t.Fatalf("Valid of %v is %v", r, v)
		}
		met[wantE]++
	}
	met.need(t, api.OK, api.ErrArg, api.ErrRange)
}

func TestMakeTells(t *testing.T) {
	for _, x := range []struct {
		lo, hi int64
		want   api.Errno
	}{
		{0, 0, api.OK},
		{-end, end, api.OK},
		{end, end, api.OK},
		{-end, -end, api.OK},
		{2, 1, api.ErrArg},
		{end + 2, end + 1, api.ErrArg},
		{-end - 1, -end - 2, api.ErrArg},
		{end + 1, end + 2, api.ErrRange},
		{-end - 2, -end - 1, api.ErrRange},
		{0, end + 1, api.ErrRange},
		{-end - 1, 0, api.ErrRange},
	} {
		if r, e := interval.Make(x.lo, x.hi); e != x.want || (e != api.OK) != (r == api.Range{}) && x.lo != 0 {
			t.Errorf("Make(%d, %d) = %v, %d; want %d", x.lo, x.hi, r, e, x.want)
		}
	}
}

func TestAround(t *testing.T) {
	met := results{}
	for _, n := range edges() {
		for _, d := range edges() {
			want, wantE := api.Range{}, api.ErrArg
			if d >= 0 {
				x, y := big.NewInt(n), big.NewInt(d)
				want, wantE = spanned(new(big.Int).Sub(x, y), new(big.Int).Add(x, y))
			}
			got, e := interval.Around(n, d)
			check(t, "Around", n, d, got, e, want, wantE)
			met[wantE]++
		}
	}
	met.need(t, api.OK, api.ErrArg, api.ErrRange)
}

func TestAroundTells(t *testing.T) {
	for _, x := range []struct {
		n, d int64
		want api.Range
		e    api.Errno
	}{
		{10, 3, of(7, 13), api.OK},
		{10, 0, of(10, 10), api.OK},
		{0, end, of(-end, end), api.OK},
		{end - 1, 1, of(end-2, end), api.OK},
		{end, 1, of(0, 0), api.ErrRange},
		{-end, 1, of(0, 0), api.ErrRange},
		{end + 1, 1, of(0, 0), api.ErrRange},
		{most, most, of(0, 0), api.ErrRange},
		{least, most, of(0, 0), api.ErrRange},
		{0, -1, of(0, 0), api.ErrArg},
		{most, -1, of(0, 0), api.ErrArg},
		{least, least, of(0, 0), api.ErrArg},
	} {
		got, e := interval.Around(x.n, x.d)
		check(t, "Around", x.n, x.d, got, e, x.want, x.e)
	}
}

// Every function that asks for valid ranges refuses each of its ranges first.
func TestNotValid(t *testing.T) {
	good := of(1, 2)
	for _, bad := range wrongRanges() {
		for _, p := range [][2]api.Range{{bad, good}, {good, bad}, {bad, bad}} {
			for name, f := range map[string]func(a, b api.Range) (api.Range, api.Errno){"Add": interval.Add, "Sub": interval.Sub, "Hull": interval.Hull, "Meet": interval.Meet} {
				got, e := f(p[0], p[1])
				check(t, name, p[0], p[1], got, e, api.Range{}, api.ErrArg)
			}
			if interval.Within(p[0], p[1]) || interval.Apart(p[0], p[1]) {
				t.Errorf("a report about %v and %v", p[0], p[1])
			}
		}
		for _, n := range []int64{0, 1, most} {
			got, e := interval.Times(bad, n)
			check(t, "Times", bad, n, got, e, api.Range{}, api.ErrArg)
			got, e = interval.Over(bad, n)
			check(t, "Over", bad, n, got, e, api.Range{}, api.ErrArg)
			if interval.Has(bad, n) || interval.Has(bad, bad.Lo) {
				t.Errorf("%v has a number", bad)
			}
		}
		if s, e := interval.Text(bad); s != "" || e != api.ErrArg {
			t.Errorf("Text of %v = %q, %d", bad, s, e)
		}
	}
}

// P29.2

func TestAddAndSub(t *testing.T) {
	met := results{}
	l := pairs()
	for _, a := range few(l, 7) {
		for _, b := range few(l, 11) {
			sum, difference, wantS, wantD := api.Range{}, api.Range{}, api.ErrArg, api.ErrArg
			if isRange(a) && isRange(b) {
				sum, wantS = spanned(all(a, b, (*big.Int).Add)...)
				difference, wantD = spanned(all(a, b, (*big.Int).Sub)...)
			}
			got, e := interval.Add(a, b)
			check(t, "Add", a, b, got, e, sum, wantS)
			got, e = interval.Sub(a, b)
			check(t, "Sub", a, b, got, e, difference, wantD)
			met[wantS]++
		}
	}
	met.need(t, api.OK, api.ErrArg, api.ErrRange)
}

// all returns the results of an operation on each end of a and each end of b.
func all(a, b api.Range, f func(z, x, y *big.Int) *big.Int) []*big.Int {
	out := []*big.Int{}
	for _, x := range []int64{a.Lo, a.Hi} {
		for _, y := range []int64{b.Lo, b.Hi} {
			out = append(out, f(new(big.Int), big.NewInt(x), big.NewInt(y)))
		}
	}
	return out
}

func TestSumsTell(t *testing.T) {
	whole := of(-end, end)
	for _, x := range []struct {
		name string
		f    func(a, b api.Range) (api.Range, api.Errno)
		a, b api.Range
		want api.Range
		e    api.Errno
	}{
		{"Add", interval.Add, of(-1, 2), of(5, 9), of(4, 11), api.OK},
		{"Add", interval.Add, whole, of(0, 0), whole, api.OK},
		{"Add", interval.Add, of(0, end), of(0, 1), of(0, 0), api.ErrRange},
		{"Add", interval.Add, of(-end, 0), of(-1, 0), of(0, 0), api.ErrRange},
		{"Add", interval.Add, of(end, end), of(end, end), of(0, 0), api.ErrRange},
		{"Add", interval.Add, of(-end, -end), of(-end, -end), of(0, 0), api.ErrRange},
		{"Add", interval.Add, of(-end, 0), of(0, end), whole, api.OK},
		{"Sub", interval.Sub, of(7, 13), of(1, 2), of(5, 12), api.OK},
		{"Sub", interval.Sub, of(7, 13), of(7, 13), of(-6, 6), api.OK},
		{"Sub", interval.Sub, of(0, 0), whole, whole, api.OK},
		{"Sub", interval.Sub, of(0, 1), whole, of(0, 0), api.ErrRange},
		{"Sub", interval.Sub, of(-1, 0), whole, of(0, 0), api.ErrRange},
		{"Sub", interval.Sub, of(end, end), of(-end, -end), of(0, 0), api.ErrRange},
		{"Sub", interval.Sub, of(-end, -end), of(end, end), of(0, 0), api.ErrRange},
	} {
		got, e := x.f(x.a, x.b)
		check(t, x.name, x.a, x.b, got, e, x.want, x.e)
	}
}

func TestTimesAndOver(t *testing.T) {
	met := results{}
	for _, a := range pairs() {
		for _, n := range edges() {
			products, wantP := api.Range{}, api.ErrArg
			if isRange(a) {
				products, wantP = spanned(all(a, of(n, n), (*big.Int).Mul)...)
			}
			got, e := interval.Times(a, n)
			check(t, "Times", a, n, got, e, products, wantP)
			quotients, wantQ := api.Range{}, api.ErrArg
			if isRange(a) && n != 0 {
				quotients, wantQ = quotientsOf(a, n)
			}
			got, e = interval.Over(a, n)
			check(t, "Over", a, n, got, e, quotients, wantQ)
			met[wantP]++
			met[wantQ]++
		}
	}
	met.need(t, api.OK, api.ErrArg, api.ErrRange)
}

// quotientsOf returns the range of the quotients of the ends of a by d, each one rounded down and up.
func quotientsOf(a api.Range, d int64) (api.Range, api.Errno) {
	lo, hi := new(big.Rat), new(big.Rat)
	for i, n := range []int64{a.Lo, a.Hi} {
		q := new(big.Rat).SetFrac(big.NewInt(n), big.NewInt(d))
		if i == 0 || q.Cmp(lo) < 0 {
			lo = q
		}
		if i == 0 || q.Cmp(hi) > 0 {
			hi = q
		}
	}
	// The quotient of big's Div is rounded down for the positive denominators of ratios.
	down := new(big.Int).Div(lo.Num(), lo.Denom())
	up := new(big.Int).Neg(new(big.Int).Div(new(big.Int).Neg(hi.Num()), hi.Denom()))
	return spanned(down, up)
}

func TestScalesTell(t *testing.T) {
	for _, x := range []struct {
		name string
		f    func(a api.Range, n int64) (api.Range, api.Errno)
		a    api.Range
		n    int64
		want api.Range
		e    api.Errno
	}{
		{"Times", interval.Times, of(7, 13), -2, of(-26, -14), api.OK},
		{"Times", interval.Times, of(-7, 13), 2, of(-14, 26), api.OK},
		{"Times", interval.Times, of(-end, end), 0, of(0, 0), api.OK},
		{"Times", interval.Times, of(-end, end), -1, of(-end, end), api.OK},
		{"Times", interval.Times, of(0, end), 2, of(0, 0), api.ErrRange},
		{"Times", interval.Times, of(0, end/2), 2, of(0, end), api.OK},
		{"Times", interval.Times, of(1, 1), least, of(0, 0), api.ErrRange},
		{"Times", interval.Times, of(0, 0), least, of(0, 0), api.OK},
		{"Times", interval.Times, of(4, 4), end, of(0, 0), api.ErrRange},
		{"Over", interval.Over, of(-7, 7), 2, of(-4, 4), api.OK},
		{"Over", interval.Over, of(7, 7), -2, of(-4, -3), api.OK},
		{"Over", interval.Over, of(7, 7), 2, of(3, 4), api.OK},
		{"Over", interval.Over, of(6, 9), 3, of(2, 3), api.OK},
		{"Over", interval.Over, of(6, 9), -3, of(-3, -2), api.OK},
		{"Over", interval.Over, of(1, 2), 10, of(0, 1), api.OK},
		{"Over", interval.Over, of(-2, -1), 10, of(-1, 0), api.OK},
		{"Over", interval.Over, of(-end, end), least, of(-1, 1), api.OK},
		{"Over", interval.Over, of(-end, end), -1, of(-end, end), api.OK},
		{"Over", interval.Over, of(0, 0), 5, of(0, 0), api.OK},
		{"Over", interval.Over, of(1, 2), 0, of(0, 0), api.ErrArg},
	} {
		got, e := x.f(x.a, x.n)
		check(t, x.name, x.a, x.n, got, e, x.want, x.e)
	}
}

// P29.3 and P29.4: the ranges of small numbers are compared with their sets.

// set returns the numbers of a range in order, those of Lo to Hi.
func set(r api.Range) []int64 {
	out := []int64{}
	for n := r.Lo; n <= r.Hi; n++ {
		out = append(out, n)
	}
	return out
}

func small() []api.Range {
	out := []api.Range{}
	for lo := int64(-3); lo <= 3; lo++ {
		for hi := int64(-3); hi <= 3; hi++ {
			out = append(out, of(lo, hi))
		}
	}
	return out
}

func TestSets(t *testing.T) {
	met := results{}
	for _, a := range small() {
		for _, b := range small() {
			hull, meet, wantH, wantM := api.Range{}, api.Range{}, api.ErrArg, api.ErrArg
			within, apart := false, false
			if isRange(a) && isRange(b) {
				hull, meet, wantM = joined(a, b)
				wantH = api.OK
				within, apart = wantM == api.OK && meet == a, wantM == api.ErrNone
			}
			got, e := interval.Hull(a, b)
			check(t, "Hull", a, b, got, e, hull, wantH)
			got, e = interval.Meet(a, b)
			check(t, "Meet", a, b, got, e, meet, wantM)
			if w, s := interval.Within(a, b), interval.Apart(a, b); w != within || s != apart {
				t.Fatalf("%v and %v: Within %v, Apart %v; want %v, %v", a, b, w, s, within, apart)
			}
			met[wantM]++
		}
	}
	met.need(t, api.OK, api.ErrArg, api.ErrNone)
}

// joined returns the least range with the numbers of both, and that of the numbers in both.
func joined(a, b api.Range) (hull, meet api.Range, e api.Errno) {
	hull, e = a, api.ErrNone
	for _, n := range set(b) {
		hull = of(min(hull.Lo, n), max(hull.Hi, n))
		if n < a.Lo || n > a.Hi {
			continue
		}
		if e == api.ErrNone {
			meet, e = of(n, n), api.OK
		}
		meet.Hi = n
	}
	return hull, meet, e
}

func TestHas(t *testing.T) {
	for _, a := range small() {
		in := map[int64]bool{}
		for _, n := range set(a) {
			in[n] = true
		}
		for n := int64(-5); n <= 5; n++ {
			if h := interval.Has(a, n); h != in[n] {
				t.Errorf("Has of %v and %d is %v", a, n, h)
			}
		}
	}
	whole := of(-end, end)
	for _, n := range edges() {
		if h := interval.Has(whole, n); h != (n >= -end && n <= end) {
			t.Errorf("Has of the whole and %d is %v", n, h)
		}
	}
}

func TestSetsTell(t *testing.T) {
	got, e := interval.Meet(of(1, 3), of(3, 9))
	check(t, "Meet", of(1, 3), of(3, 9), got, e, of(3, 3), api.OK)
	got, e = interval.Meet(of(1, 2), of(3, 4))
	check(t, "Meet", of(1, 2), of(3, 4), got, e, of(0, 0), api.ErrNone)
	got, e = interval.Hull(of(1, 2), of(8, 9))
	check(t, "Hull", of(1, 2), of(8, 9), got, e, of(1, 9), api.OK)
	got, e = interval.Hull(of(-end, -end), of(end, end))
	check(t, "Hull", "the least", "the greatest", got, e, of(-end, end), api.OK)
	if !interval.Within(of(end, end), of(-end, end)) || !interval.Apart(of(end, end), of(-end, end-1)) {
		t.Error("reports about the greatest end")
	}
}

// What a result has to enclose: the results of operations on numbers of the ranges.
func TestEnclosed(t *testing.T) {
	for _, a := range small() {
		for _, b := range small() {
			sum, e := interval.Add(a, b)
			difference, wrong := interval.Sub(a, b)
			if e != api.OK || wrong != api.OK {
				continue
			}
			for _, x := range set(a) {
				for _, y := range set(b) {
					if !interval.Has(sum, x+y) || !interval.Has(difference, x-y) {
						t.Fatalf("%d and %d of %v and %v are not enclosed", x, y, a, b)
					}
				}
			}
		}
	}
}

// P29.5

func TestText(t *testing.T) {
	seen := map[string]bool{}
	for _, r := range pairs() {
		s, e := interval.Text(r)
		if !isRange(r) {
			if s != "" || e != api.ErrArg {
				t.Errorf("Text of %v = %q, %d", r, s, e)
			}
			continue
		}
		if want := strconv.FormatInt(r.Lo, 10) + ".." + strconv.FormatInt(r.Hi, 10); s != want || e != api.OK {
			t.Errorf("Text of %v = %q, %d; want %q", r, s, e, want)
		}
		if back, e := interval.Parse(s); back != r || e != api.OK {
			t.Errorf("Parse of %q = %v, %d", s, back, e)
		}
		seen[s] = true
	}
	if len(seen) < 100 {
		t.Errorf("only %d texts", len(seen))
	}
}

func TestParseRefuses(t *testing.T) {
	for _, s := range []string{
		"", ".", "..", "...", "1", "1..", "..1", "1.2", "1...2", "1....2", "1..2..3", "1..2..", "..1..2",
		"1..0", "0..-1", "-1..-2", "01..2", "1..02", "+1..2", "1..+2", "-0..0", "0..-0", "-..1", "--1..2", "- 1..2",
		" 1..2", "1..2 ", "1 ..2", "1.. 2", "1..2\n", "1..2\x00", "1_0..20", "0x1..2", "1e1..20", "1,2", "1-2", "[1..2]", "1…2", "١..٢",
		"4611686018427387904..4611686018427387905", "0..4611686018427387905", "-4611686018427387905..0",
		"0..9223372036854775807", "0..9223372036854775808", "-9223372036854775808..0", "0..18446744073709551617", "18446744073709551617..18446744073709551618",
		"0.." + strings.Repeat("9", 5000), "-" + strings.Repeat("0", 5000) + "..0",
	} {
		if r, e := interval.Parse(s); e != api.ErrForm || r != (api.Range{}) {
			t.Errorf("Parse of %q = %v, %d", s, r, e)
		}
	}
}

// Every string that is accepted is the text of its range.
func TestParseFindsOnlyTexts(t *testing.T) {
	source := rand.New(rand.NewSource(5))
	met := results{}
	signs := []string{"-", ".", "..", "0", "1", "2", "19", "+", " ", "4611686018427387904", "4611686018427387905"}
	for range 40_000 {
		s := ""
		for range 1 + source.Intn(6) {
			s += signs[source.Intn(len(signs))]
		}
		r, e := interval.Parse(s)
		met[e]++
		if e == api.ErrForm && r == (api.Range{}) {
			continue
		}
		if back, bad := interval.Text(r); e != api.OK || bad != api.OK || back != s {
			t.Fatalf("Parse of %q = %v, %d; its text is %q", s, r, e, back)
		}
	}
	met.need(t, api.OK, api.ErrForm)
}
