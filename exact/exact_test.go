package exact_test

import (
	"math"
	"math/big"
	"math/rand"
	"strings"
	"testing"

	"scorebook/api"
	"scorebook/exact"
)

const (
	least = math.MinInt64
	most  = math.MaxInt64
	part  = api.MaxRatio
)

func ratio(n, d int64) api.Ratio { return api.Ratio{Num: n, Den: d} }

// edges are integers at which something changes.
func edges() []int64 {
	sizes := []int64{1, 2, 3, 4, 5, 6, 7, 10, 60, 90, 300, 999_999_937, part/2 - 1, part / 2, part - 1, part, part + 1, 3 * part, 1 << 32, part * (part - 1), 1 << 62, 1<<62 + 1, most - 1, most}
	out := []int64{0, least, least + 1}
	for _, n := range sizes {
		out = append(out, n, -n)
	}
	return out
}

// validRatios are the edge ratios, and others that follow from a fixed seed.
func validRatios() []api.Ratio {
	out := []api.Ratio{}
	seen := map[api.Ratio]bool{}
	add := func(n, d int64) {
		r := new(big.Rat).SetFrac64(n, d)
		x := ratio(r.Num().Int64(), r.Denom().Int64())
		if x.Num >= -part && x.Num <= part && x.Den <= part && !seen[x] {
			seen[x] = true
			out = append(out, x)
		}
	}
	parts := []int64{1, 2, 3, 7, 8, 300, 65_536, part/2 - 1, part / 2, part - 1, part}
	for _, n := range parts {
		for _, d := range parts {
			add(n, d)
			add(-n, d)
		}
	}
	add(0, 1)
	source := rand.New(rand.NewSource(1))
	for range 60 {
		add(source.Int63n(2*part)-part, 1+source.Int63n(part))
		add(source.Int63n(41)-20, 1+source.Int63n(20))
	}
	return out
}

// invalidRatios are structures that are no valid ratios.
func invalidRatios() []api.Ratio {
	return []api.Ratio{{}, ratio(0, 2), ratio(0, -1), ratio(1, 0), ratio(1, -2), ratio(2, 4), ratio(-6, 3), ratio(part+1, 1), ratio(-part-1, 1), ratio(1, part+1), ratio(part, part), ratio(most, 2), ratio(least, 1), ratio(1, least), ratio(least, least), ratio(1, most), ratio(most, most)}
}

func bigOf(a api.Ratio) *big.Rat { return new(big.Rat).SetFrac64(a.Num, a.Den) }

// fromBig returns what a function that computes x has to return.
func fromBig(x *big.Rat) (api.Ratio, api.Errno) {
	limit := big.NewInt(part)
	if x.Num().CmpAbs(limit) > 0 || x.Denom().Cmp(limit) > 0 {
		return api.Ratio{}, api.ErrRange
	}
	return ratio(x.Num().Int64(), x.Denom().Int64()), api.OK
}

func checkRatio(t *testing.T, what string, got api.Ratio, e api.Errno, want api.Ratio, wantErr api.Errno) {
	t.Helper()
	if got != want || e != wantErr {
		t.Errorf("%s = %v, %d; want %v, %d", what, got, e, want, wantErr)
	}
}

// P1.1

func TestGcd(t *testing.T) {
	for _, x := range [][3]int64{{0, 0, 0}, {0, 5, 5}, {-5, 0, 5}, {12, 18, 6}, {18, 12, 6}, {-12, 18, 6}, {12, -18, 6}, {-12, -18, 6}, {7, 13, 1}, {least, 0, 0}, {0, least, 0}, {least, 2, 0}, {2, least, 0}, {least, least, 0}, {least + 1, 0, most}, {most, least + 1, most}} {
		if g := exact.Gcd(x[0], x[1]); g != x[2] {
			t.Errorf("Gcd(%d, %d) = %d; want %d", x[0], x[1], g, x[2])
		}
	}
}

func TestGcdOfEdges(t *testing.T) {
	for _, a := range edges() {
		for _, b := range edges() {
			var want int64
			if a != least && b != least {
				x, y := big.NewInt(a), big.NewInt(b)
				want = new(big.Int).GCD(nil, nil, x.Abs(x), y.Abs(y)).Int64()
			}
			if g := exact.Gcd(a, b); g != want {
				t.Errorf("Gcd(%d, %d) = %d; want %d", a, b, g, want)
			}
		}
	}
}

// P1.2

func TestMake(t *testing.T) {
	for _, x := range []struct {
		n, d int64
		want api.Ratio
		e    api.Errno
	}{
		{90, 60, ratio(3, 2), api.OK},
		{1, -2, ratio(-1, 2), api.OK},
		{-1, -2, ratio(1, 2), api.OK},
		{-4, 2, ratio(-2, 1), api.OK},
		{0, 7, ratio(0, 1), api.OK},
		{0, -7, ratio(0, 1), api.OK},
		{part, 1, ratio(part, 1), api.OK},
		{-part, 1, ratio(-part, 1), api.OK},
		{1, part, ratio(1, part), api.OK},
		{1, -part, ratio(-1, part), api.OK},
		{1 << 62, 1 << 62, ratio(1, 1), api.OK},
		{most, most, ratio(1, 1), api.OK},
		{1, 0, api.Ratio{}, api.ErrArg},
		{0, 0, api.Ratio{}, api.ErrArg},
		{least, 0, api.Ratio{}, api.ErrArg},
		{1 << 32, 1, api.Ratio{}, api.ErrRange},
		{part + 1, 1, api.Ratio{}, api.ErrRange},
		{-part - 1, 1, api.Ratio{}, api.ErrRange},
		{1, part + 1, api.Ratio{}, api.ErrRange},
		{1, -part - 1, api.Ratio{}, api.ErrRange},
		{least, 1, api.Ratio{}, api.ErrRange},
		{least, least, api.Ratio{}, api.ErrRange},
		{0, least, api.Ratio{}, api.ErrRange},
		{1, least, api.Ratio{}, api.ErrRange},
		{least, -1, api.Ratio{}, api.ErrRange},
	} {
		r, e := exact.Make(x.n, x.d)
		if r != x.want || e != x.e {
			t.Errorf("Make(%d, %d) = %v, %d; want %v, %d", x.n, x.d, r, e, x.want, x.e)
		}
	}
}

func TestMakeOfEdges(t *testing.T) {
	for _, n := range edges() {
		for _, d := range edges() {
			var want api.Ratio
			var wantErr api.Errno
			switch {
			case d == 0:
				wantErr = api.ErrArg
			case n == least || d == least:
				wantErr = api.ErrRange
			default:
				want, wantErr = fromBig(new(big.Rat).SetFrac64(n, d))
			}
			r, e := exact.Make(n, d)
			if r != want || e != wantErr {
				t.Errorf("Make(%d, %d) = %v, %d; want %v, %d", n, d, r, e, want, wantErr)
			}
		}
	}
}

func TestValid(t *testing.T) {
	for _, r := range append(validRatios(), ratio(0, 1), ratio(part, 1), ratio(-part, 1), ratio(1, part), ratio(-1, part), ratio(part, part-1), ratio(part-1, part)) {
		if !exact.Valid(r) {
			t.Errorf("Valid(%v) = false", r)
		}
	}
	for _, r := range invalidRatios() {
		if exact.Valid(r) {
			t.Errorf("Valid(%v) = true", r)
		}
	}
}

// P1.3

func TestNeg(t *testing.T) {
	for _, a := range validRatios() {
		r, e := exact.Neg(a)
		checkRatio(t, "Neg "+exact.Text(a), r, e, ratio(-a.Num, a.Den), api.OK)
	}
	for _, a := range invalidRatios() {
		r, e := exact.Neg(a)
		checkRatio(t, "Neg of an invalid ratio", r, e, api.Ratio{}, api.ErrArg)
	}
}

// operation is a function of two ratios, with the one of package big that it has to agree with.
type operation struct {
	name string
	do   func(a, b api.Ratio) (api.Ratio, api.Errno)
	big  func(z, x, y *big.Rat) *big.Rat
}

func operations() []operation {
	return []operation{{"Add", exact.Add, (*big.Rat).Add}, {"Sub", exact.Sub, (*big.Rat).Sub}, {"Mul", exact.Mul, (*big.Rat).Mul}, {"Div", exact.Div, (*big.Rat).Quo}}
}

func TestOperations(t *testing.T) {
	half, third := ratio(1, 2), ratio(1, 3)
	for i, want := range []api.Ratio{ratio(5, 6), ratio(1, 6), ratio(1, 6), ratio(3, 2)} {
		o := operations()[i]
		r, e := o.do(half, third)
		checkRatio(t, o.name, r, e, want, api.OK)
	}
	r, e := exact.Sub(half, half)
	checkRatio(t, "Sub to 0", r, e, ratio(0, 1), api.OK)
	r, e = exact.Div(half, ratio(-1, 3))
	checkRatio(t, "Div by a negative ratio", r, e, ratio(-3, 2), api.OK)
}

func TestOperationsAgainstBig(t *testing.T) {
	ratios := validRatios()
	for _, o := range operations() {
		for _, a := range ratios {
			for _, b := range ratios {
				if o.name == "Div" && b.Num == 0 {
					continue
				}
				want, wantErr := fromBig(o.big(new(big.Rat), bigOf(a), bigOf(b)))
				r, e := o.do(a, b)
				if r != want || e != wantErr {
					t.Fatalf("%s(%v, %v) = %v, %d; want %v, %d", o.name, a, b, r, e, want, wantErr)
				}
			}
		}
	}
}

func TestOperationErrors(t *testing.T) {
	good, zero := ratio(1, 2), ratio(0, 1)
	for _, o := range operations() {
		for _, bad := range invalidRatios() {
			for _, pair := range [][2]api.Ratio{{bad, good}, {good, bad}, {bad, bad}, {bad, zero}, {zero, bad}} {
				r, e := o.do(pair[0], pair[1])
				checkRatio(t, o.name+" of an invalid ratio", r, e, api.Ratio{}, api.ErrArg)
			}
		}
	}
	for _, a := range validRatios() {
		r, e := exact.Div(a, zero)
		checkRatio(t, "Div by 0", r, e, api.Ratio{}, api.ErrArg)
	}
	r, e := exact.Add(ratio(part, 1), ratio(1, 1))
	checkRatio(t, "Add beyond the numerators", r, e, api.Ratio{}, api.ErrRange)
	r, e = exact.Sub(ratio(-part, 1), ratio(1, 1))
	checkRatio(t, "Sub beyond the numerators", r, e, api.Ratio{}, api.ErrRange)
	r, e = exact.Mul(ratio(1, part), ratio(1, 2))
	checkRatio(t, "Mul beyond the denominators", r, e, api.Ratio{}, api.ErrRange)
	r, e = exact.Div(ratio(part, 1), ratio(1, 2))
	checkRatio(t, "Div beyond the numerators", r, e, api.Ratio{}, api.ErrRange)
}

// P1.4

func TestCmp(t *testing.T) {
	ratios := validRatios()
	for _, a := range ratios {
		for _, b := range ratios {
			if c, want := exact.Cmp(a, b), bigOf(a).Cmp(bigOf(b)); c != want {
				t.Fatalf("Cmp(%v, %v) = %d; want %d", a, b, c, want)
			}
		}
	}
	for _, bad := range invalidRatios() {
		for _, good := range []api.Ratio{ratio(-part, 1), ratio(0, 1), ratio(1, 2), ratio(part, 1)} {
			if exact.Cmp(bad, good) != 0 || exact.Cmp(good, bad) != 0 {
				t.Errorf("Cmp of the invalid %v and %v is not 0", bad, good)
			}
		}
	}
}

// P1.5

func TestQuotients(t *testing.T) {
	for _, x := range [][4]int64{{-7, 2, -4, -3}, {7, 2, 3, 4}, {7, -2, -4, -3}, {-7, -2, 3, 4}, {6, 3, 2, 2}, {-6, 3, -2, -2}, {0, -3, 0, 0}, {1, 3, 0, 1}, {-1, 3, -1, 0}, {least, 1, least, least}, {least, least, 1, 1}, {least, 2, -1 << 62, -1 << 62}, {most, -1, -most, -most}, {1, least, -1, 0}, {least, most, -2, -1}} {
		f, e := exact.FloorDiv(x[0], x[1])
		c, g := exact.CeilDiv(x[0], x[1])
		if f != x[2] || c != x[3] || e != api.OK || g != api.OK {
			t.Errorf("%d / %d: floor %d, %d, ceiling %d, %d; want %d and %d", x[0], x[1], f, e, c, g, x[2], x[3])
		}
	}
}

func TestQuotientErrors(t *testing.T) {
	for _, x := range []struct {
		n, d int64
		e    api.Errno
	}{{0, 0, api.ErrArg}, {1, 0, api.ErrArg}, {least, 0, api.ErrArg}, {least, -1, api.ErrRange}} {
		if q, e := exact.FloorDiv(x.n, x.d); q != 0 || e != x.e {
			t.Errorf("FloorDiv(%d, %d) = %d, %d; want 0, %d", x.n, x.d, q, e, x.e)
		}
		if q, e := exact.CeilDiv(x.n, x.d); q != 0 || e != x.e {
			t.Errorf("CeilDiv(%d, %d) = %d, %d; want 0, %d", x.n, x.d, q, e, x.e)
		}
	}
}

// bigFloor returns n / d, rounded down.
func bigFloor(n, d *big.Int) *big.Int {
	if d.Sign() < 0 {
		n, d = new(big.Int).Neg(n), new(big.Int).Neg(d)
	}
	return new(big.Int).Div(n, d)
}

func TestQuotientsOfEdges(t *testing.T) {
	for _, n := range edges() {
		for _, d := range edges() {
			if d == 0 || n == least && d == -1 {
				continue
			}
			floor := bigFloor(big.NewInt(n), big.NewInt(d)).Int64()
			ceiling := -bigFloor(new(big.Int).Neg(big.NewInt(n)), big.NewInt(d)).Int64()
			if q, e := exact.FloorDiv(n, d); q != floor || e != api.OK {
				t.Errorf("FloorDiv(%d, %d) = %d, %d; want %d", n, d, q, e, floor)
			}
			if q, e := exact.CeilDiv(n, d); q != ceiling || e != api.OK {
				t.Errorf("CeilDiv(%d, %d) = %d, %d; want %d", n, d, q, e, ceiling)
			}
		}
	}
}

// P1.6

func TestRounding(t *testing.T) {
	for _, x := range []struct {
		a                    api.Ratio
		floor, ceiling, near int64
	}{
		{ratio(-1, 2), -1, 0, 0},
		{ratio(1, 2), 0, 1, 1},
		{ratio(-3, 2), -2, -1, -1},
		{ratio(3, 2), 1, 2, 2},
		{ratio(1, 3), 0, 1, 0},
		{ratio(2, 3), 0, 1, 1},
		{ratio(-1, 3), -1, 0, 0},
		{ratio(-2, 3), -1, 0, -1},
		{ratio(0, 1), 0, 0, 0},
		{ratio(-5, 1), -5, -5, -5},
		{ratio(part, 1), part, part, part},
		{ratio(-part, 1), -part, -part, -part},
		{ratio(-1, part), -1, 0, 0},
		{ratio(part-1, part), 0, 1, 1},
	} {
		f, e := exact.Floor(x.a)
		c, g := exact.Ceil(x.a)
		r, h := exact.Round(x.a)
		if f != x.floor || c != x.ceiling || r != x.near || e != api.OK || g != api.OK || h != api.OK {
			t.Errorf("%v: floor %d, ceiling %d, nearest %d; want %d, %d, %d", x.a, f, c, r, x.floor, x.ceiling, x.near)
		}
	}
}

func TestRoundingAgainstBig(t *testing.T) {
	for _, a := range validRatios() {
		n, d := big.NewInt(a.Num), big.NewInt(a.Den)
		floor := bigFloor(n, d).Int64()
		ceiling := -bigFloor(new(big.Int).Neg(n), d).Int64()
		near := bigFloor(big.NewInt(2*a.Num+a.Den), big.NewInt(2*a.Den)).Int64()
		f, _ := exact.Floor(a)
		c, _ := exact.Ceil(a)
		r, _ := exact.Round(a)
		if f != floor || c != ceiling || r != near {
			t.Errorf("%v: floor %d, ceiling %d, nearest %d; want %d, %d, %d", a, f, c, r, floor, ceiling, near)
		}
	}
}

func TestRoundingErrors(t *testing.T) {
	for _, a := range invalidRatios() {
		f, e := exact.Floor(a)
		c, g := exact.Ceil(a)
		r, h := exact.Round(a)
		if f != 0 || c != 0 || r != 0 || e != api.ErrArg || g != api.ErrArg || h != api.ErrArg {
			t.Errorf("%v: floor %d, %d, ceiling %d, %d, nearest %d, %d", a, f, e, c, g, r, h)
		}
	}
}

// P1.7

func TestDecimal(t *testing.T) {
	for _, x := range []struct {
		a      api.Ratio
		places int
		want   string
	}{
		{ratio(2, 3), 2, "0.67"},
		{ratio(-1, 8), 2, "-0.13"},
		{ratio(1, 8), 2, "0.13"},
		{ratio(-1, 300), 2, "0.00"},
		{ratio(-1, 200), 2, "-0.01"},
		{ratio(5, 2), 0, "3"},
		{ratio(-5, 2), 0, "-3"},
		{ratio(-1, 3), 0, "0"},
		{ratio(0, 1), 0, "0"},
		{ratio(0, 1), 9, "0.000000000"},
		{ratio(100, 1), 1, "100.0"},
		{ratio(100, 1), 0, "100"},
		{ratio(199, 200), 2, "1.00"},
		{ratio(1, 20), 2, "0.05"},
		{ratio(part, 1), 9, "2147483648.000000000"},
		{ratio(-part, 1), 9, "-2147483648.000000000"},
		{ratio(1, part), 9, "0.000000000"},
		{ratio(3, part), 9, "0.000000001"},
		{ratio(-1, part), 9, "0.000000000"},
		{ratio(part, part-1), 9, "1.000000000"},
	} {
		if s, e := exact.Decimal(x.a, x.places); s != x.want || e != api.OK {
			t.Errorf("Decimal(%v, %d) = %q, %d; want %q", x.a, x.places, s, e, x.want)
		}
	}
}

func TestDecimalAgainstBig(t *testing.T) {
	for _, a := range validRatios() {
		for places := range 10 {
			want := bigOf(a).FloatString(places)
			if strings.Trim(want, "-0.") == "" {
				want = strings.TrimPrefix(want, "-")
			}
			if s, e := exact.Decimal(a, places); s != want || e != api.OK {
				t.Errorf("Decimal(%v, %d) = %q, %d; want %q", a, places, s, e, want)
			}
		}
	}
}

func TestDecimalErrors(t *testing.T) {
	for _, places := range []int{-1, 10, math.MaxInt, math.MinInt} {
		if s, e := exact.Decimal(ratio(1, 2), places); s != "" || e != api.ErrRange {
			t.Errorf("Decimal with %d places: %q, %d", places, s, e)
		}
	}
	for _, a := range invalidRatios() {
		for _, places := range []int{-1, 0, 2, 10} {
			if s, e := exact.Decimal(a, places); s != "" || e != api.ErrArg {
				t.Errorf("Decimal(%v, %d) = %q, %d", a, places, s, e)
			}
		}
	}
}

// P1.8

func TestText(t *testing.T) {
	for _, x := range []struct {
		a    api.Ratio
		want string
	}{{ratio(3, 2), "3/2"}, {ratio(-3, 2), "-3/2"}, {ratio(0, 1), "0/1"}, {ratio(part, 1), "2147483648/1"}, {ratio(-part, part-1), "-2147483648/2147483647"}, {ratio(1, part), "1/2147483648"}} {
		if s := exact.Text(x.a); s != x.want {
			t.Errorf("Text(%v) = %q; want %q", x.a, s, x.want)
		}
	}
	for _, a := range invalidRatios() {
		if s := exact.Text(a); s != "" {
			t.Errorf("Text(%v) = %q; want nothing", a, s)
		}
	}
}

func TestParse(t *testing.T) {
	for _, a := range validRatios() {
		r, e := exact.Parse(exact.Text(a))
		checkRatio(t, "Parse "+exact.Text(a), r, e, a, api.OK)
	}
	r, e := exact.Parse("-90/61")
	checkRatio(t, "Parse -90/61", r, e, ratio(-90, 61), api.OK)
}

func TestParseErrors(t *testing.T) {
	for _, s := range []string{"", "/", "1", "1/", "/1", "-", "-/1", "1/-2", "-1/-2", "2/4", "0/2", "-0/1", "+1/2", "1/+2", "01/2", "1/02", "00/1", "1/0", "0/0", " 1/2", "1/2 ", "1 /2", "1/2/1", "1/2/", "//", "1_0/3", "0x1/2", "1e1/3", "1.0/2", "a/b", "1\\2", "½", "1/2\x00", "2147483649/1", "-2147483649/1", "1/2147483649", "99999999999999999999/1", "1/99999999999999999999", "9223372036854775807/1", "-9223372036854775808/1", "1/-9223372036854775808", strings.Repeat("1", 10_000) + "/7"} {
		r, e := exact.Parse(s)
		checkRatio(t, "Parse "+s, r, e, api.Ratio{}, api.ErrForm)
	}
}
