package lsq_test

import (
	"math/big"
	"math/rand"
	"slices"
	"testing"

	"scorebook/api"
	"scorebook/lsq"
	"scorebook/wide"
)

const (
	value = lsq.MaxValue
	late  = lsq.MaxTime
	maxD  = 1 << 40
	maxA  = 1 << 60
	maxB  = 1 << 46
)

func at(pairs ...int64) []lsq.Point {
	out := []lsq.Point{}
	for i := 0; i < len(pairs); i += 2 {
		out = append(out, lsq.Point{T: pairs[i], V: pairs[i+1]})
	}
	return out
}

// some returns points: few or as many as there may be, some of them with great values, some with the same time.
func some(source *rand.Rand) []lsq.Point {
	n := []int{2, 3, 5, api.MaxSeen}[source.Intn(4)]
	latest := []int64{0, 1, 10, late}[source.Intn(4)]
	highest := []int64{1, 100, value}[source.Intn(3)]
	out := make([]lsq.Point, n)
	for i := range out {
		out[i] = lsq.Point{T: source.Int63n(latest + 1), V: source.Int63n(2*highest+1) - highest}
		if source.Intn(4) == 0 {
			out[i].V = highest
		}
	}
	return out
}

// extremes are points with which the sums are as great as they can be.
func extremes() [][]lsq.Point {
	out := [][]lsq.Point{}
	for _, sign := range []int64{1, -1} {
		for cut := 0; cut <= api.MaxSeen; cut++ {
			l, m := []lsq.Point{}, []lsq.Point{}
			for i := range api.MaxSeen {
				p := lsq.Point{T: 0, V: sign * value}
				q := lsq.Point{T: late, V: sign * value}
				if i >= cut {
					p = lsq.Point{T: late, V: -sign * value}
					q = lsq.Point{T: late - 1, V: -sign * value}
				}
				l, m = append(l, p), append(m, q)
			}
			out = append(out, l, m)
		}
	}
	return out
}

// fitOf returns the line that the document describes, and whether the times differ.
func fitOf(l []lsq.Point) (a, b, d *big.Int, ok bool) {
	n, s, q, u, w := big.NewInt(int64(len(l))), new(big.Int), new(big.Int), new(big.Int), new(big.Int)
	for _, p := range l {
		t, v := big.NewInt(p.T), big.NewInt(p.V)
		s.Add(s, t)
		q.Add(q, mul(t, t))
		u.Add(u, v)
		w.Add(w, mul(t, v))
		ok = ok || p.T != l[0].T
	}
	return sub(mul(q, u), mul(s, w)), sub(mul(n, w), mul(s, u)), sub(mul(n, q), mul(s, s)), ok
}

func mul(a, b *big.Int) *big.Int { return new(big.Int).Mul(a, b) }
func sub(a, b *big.Int) *big.Int { return new(big.Int).Sub(a, b) }

// P30.3

func TestLine(t *testing.T) {
	source := rand.New(rand.NewSource(32))
	met := results{}
	l := extremes()
	for range 10_000 {
		l = append(l, some(source))
	}
	for _, points := range l {
		f, e := lsq.Line(points)
		met[e]++
		a, b, d, ok := fitOf(points)
		if !ok {
			if e != api.ErrSingular || f != (api.Fit{}) {
				t.Fatalf("Line of %v = %v, %d", points, f, e)
			}
			continue
		}
		if e != api.OK || a.Cmp(big.NewInt(f.A)) != 0 || b.Cmp(big.NewInt(f.B)) != 0 || d.Cmp(big.NewInt(f.D)) != 0 {
			t.Fatalf("Line of %v = %v, %d; want %v, %v, %v", points, f, e, a, b, d)
		}
	}
	met.need(t, api.OK, api.ErrSingular)
}

// wrongPoints are points that are not accepted, each with its error.
func wrongPoints() map[api.Errno][][]lsq.Point {
	long := make([]lsq.Point, api.MaxSeen+1)
	for i := range long {
		long[i].T = int64(i)
	}
	wild := slices.Clone(long)
	wild[3].T = -1
	return map[api.Errno][][]lsq.Point{
		api.ErrLimit: {long, wild, make([]lsq.Point, 1000)},
		api.ErrArg:   {nil, {}, at(1, 1), at(-1, 0), at(0, most)},
		api.ErrRange: {at(-1, 0, 1, 0), at(0, 0, late+1, 0), at(0, value+1, 1, 0), at(0, 0, 1, -value-1), at(0, 0, 1, least), at(least, 0, most, 0), at(0, 0, 1, 1, 2, 2, 3, most), at(5, 0, 5, value+1)},
	}
}

func TestLineTells(t *testing.T) {
	for _, x := range []struct {
		l    []lsq.Point
		want api.Fit
		e    api.Errno
	}{
		{at(0, 0, 1, 1, 2, 5), api.Fit{A: -3, B: 15, D: 6}, api.OK},
		{at(2, 5, 0, 0, 1, 1), api.Fit{A: -3, B: 15, D: 6}, api.OK},
		{at(0, 7, late, 7), api.Fit{A: 7 * late * late, D: late * late}, api.OK},
		{at(3, 1, 3, 2, 4, 9), api.Fit{A: -42, B: 15, D: 2}, api.OK},
		{at(3, 0, 3, 1), api.Fit{}, api.ErrSingular},
		{at(0, 0, 0, 0), api.Fit{}, api.ErrSingular},
		{at(late, 1, late, 2, late, 3), api.Fit{}, api.ErrSingular},
	} {
		if f, e := lsq.Line(x.l); f != x.want || e != x.e {
			t.Errorf("Line of %v = %v, %d; want %v, %d", x.l, f, e, x.want, x.e)
		}
	}
	for want, l := range wrongPoints() {
		for _, points := range l {
			if f, e := lsq.Line(points); f != (api.Fit{}) || e != want {
				t.Errorf("Line of %d points %v = %v, %d; want %d", len(points), points[:min(4, len(points))], f, e, want)
			}
		}
	}
}

// P30.4

// lines are accepted lines: the greatest ones, and some that follow from a fixed seed.
func lines() []api.Fit {
	out := []api.Fit{}
	for _, a := range []int64{-maxA, -maxA + 1, -7, -1, 0, 1, 3, maxA - 1, maxA} {
		for _, b := range []int64{-maxB, -5, -1, 0, 1, 2, maxB} {
			for _, d := range []int64{1, 2, 3, 6, 1 << 20, maxD - 1, maxD} {
				out = append(out, api.Fit{A: a, B: b, D: d})
			}
		}
	}
	source := rand.New(rand.NewSource(33))
	for range 300 {
		out = append(out, api.Fit{A: source.Int63n(2*maxA+1) - maxA, B: source.Int63n(2*maxB+1) - maxB, D: 1 + source.Int63n(maxD)}, api.Fit{A: source.Int63n(41) - 20, B: source.Int63n(9) - 4, D: 1 + source.Int63n(12)})
	}
	return out
}

func wrongLines() []api.Fit {
	return []api.Fit{{}, {A: 1, B: 1}, {D: -1}, {D: maxD + 1}, {D: most}, {D: least}, {A: maxA + 1, D: 1}, {A: -maxA - 1, D: 1}, {A: most, D: 1}, {A: least, D: 1}, {B: maxB + 1, D: 1}, {B: -maxB - 1, D: 1}, {B: most, D: 1}, {B: least, D: 1}}
}

func TestAt(t *testing.T) {
	for _, f := range lines() {
		for _, time := range []int64{0, 1, 2, 3, 4, 777, late - 1, late} {
			// The nearest integer, halves up: that of the value and a half, rounded down.
			twice := new(big.Int).Add(big.NewInt(f.A), mul(big.NewInt(f.B), big.NewInt(time)))
			twice.Add(twice.Lsh(twice, 1), big.NewInt(f.D))
			want := new(big.Int).Div(twice, big.NewInt(2*f.D))
			if v, e := lsq.At(f, time); e != api.OK || big.NewInt(v).Cmp(want) != 0 {
				t.Fatalf("At of %v at %d = %d, %d; want %v", f, time, v, e, want)
			}
		}
	}
}

func TestAtTells(t *testing.T) {
	f := api.Fit{A: -3, B: 15, D: 6}
	for time, want := range []int64{0, 2, 5, 7} { // -0.5, 2, 4.5, 7
		if v, e := lsq.At(f, int64(time)); v != want || e != api.OK {
			t.Errorf("At %d = %d, %d", time, v, e)
		}
	}
	for _, x := range []struct{ a, d, want int64 }{{-5, 10, 0}, {-6, 10, -1}, {5, 10, 1}, {4, 10, 0}, {-15, 10, -1}, {-16, 10, -2}, {15, 10, 2}, {1, 3, 0}, {2, 3, 1}, {-1, 3, 0}, {-2, 3, -1}} {
		if v, e := lsq.At(api.Fit{A: x.a, D: x.d}, 9); v != x.want || e != api.OK {
			t.Errorf("%d / %d = %d, %d; want %d", x.a, x.d, v, e, x.want)
		}
	}
	for _, bad := range wrongLines() {
		for _, time := range []int64{0, -1, late + 1} {
			if v, e := lsq.At(bad, time); v != 0 || e != api.ErrArg {
				t.Errorf("At of %v at %d = %d, %d", bad, time, v, e)
			}
		}
	}
	for _, time := range []int64{-1, late + 1, least, most} {
		if v, e := lsq.At(f, time); v != 0 || e != api.ErrRange {
			t.Errorf("At %d = %d, %d", time, v, e)
		}
	}
}

// P30.5

// deviations returns the deviation of each point, times the denominator.
func deviations(l []lsq.Point, f api.Fit) []*big.Int {
	out := []*big.Int{}
	for _, p := range l {
		n := mul(big.NewInt(f.D), big.NewInt(p.V))
		n = sub(n, big.NewInt(f.A))
		out = append(out, sub(n, mul(big.NewInt(f.B), big.NewInt(p.T))))
	}
	return out
}

func squares(l []*big.Int) *big.Int {
	total := new(big.Int)
	for _, n := range l {
		total.Add(total, mul(n, n))
	}
	return total
}

// balanced restates which lines Accept accepts.
func balanced(l []lsq.Point, f api.Fit) bool {
	plain, timed := new(big.Int), new(big.Int)
	for i, n := range deviations(l, f) {
		plain.Add(plain, n)
		timed.Add(timed, mul(n, big.NewInt(l[i].T)))
	}
	return plain.Sign() == 0 && timed.Sign() == 0
}

func TestResidual(t *testing.T) {
	source := rand.New(rand.NewSource(34))
	met := results{}
	greatest := sub(new(big.Int).Lsh(big.NewInt(1), 127), big.NewInt(1))
	list := lines()
	for range 20_000 {
		l, f := some(source), list[source.Intn(len(list))]
		if fitted, e := lsq.Line(l); e == api.OK && source.Intn(2) == 0 {
			f = fitted
		}
		want := squares(deviations(l, f))
		got, e := lsq.Residual(l, f)
		met[e]++
		if want.Cmp(greatest) > 0 {
			if got != (api.Wide{}) || e != api.ErrRange {
				t.Fatalf("Residual of %v and %v = %v, %d", l, f, wide.Text(got), e)
			}
			continue
		}
		if wide.Text(got) != want.String() || e != api.OK {
			t.Fatalf("Residual of %v and %v = %v, %d; want %v", l, f, wide.Text(got), e, want)
		}
	}
	met.need(t, api.OK, api.ErrRange)
}

func TestResidualTells(t *testing.T) {
	l := at(0, 0, 1, 1, 2, 5)
	if r, e := lsq.Residual(l, api.Fit{A: -3, B: 15, D: 6}); r != wide.Of(54) || e != api.OK {
		t.Errorf("Residual = %v, %d", r, e)
	}
	if r, e := lsq.Residual(at(3, 1, 3, 4), api.Fit{A: 2, D: 1}); r != wide.Of(5) || e != api.OK {
		t.Errorf("Residual at one time = %v, %d", r, e)
	}
	for want, list := range wrongPoints() {
		for _, points := range list {
			for _, f := range []api.Fit{{D: 1}, {}} {
				if r, e := lsq.Residual(points, f); r != (api.Wide{}) || e != want {
					t.Errorf("Residual of %d points = %v, %d; want %d", len(points), r, e, want)
				}
				if lsq.Accept(points, f) {
					t.Errorf("%d points are accepted", len(points))
				}
			}
		}
	}
	for _, f := range wrongLines() {
		if r, e := lsq.Residual(l, f); r != (api.Wide{}) || e != api.ErrArg {
			t.Errorf("Residual of %v = %v, %d", f, r, e)
		}
		if lsq.Accept(at(0, 0, 1, 0), f) {
			t.Errorf("%v is accepted", f)
		}
	}
}

// The deviation of 2^61 squared is 2^122, and 32 of these are 2^127, one too many.
func TestResidualAtTheLimit(t *testing.T) {
	f := api.Fit{A: -maxA, B: -maxB, D: maxD}
	l := make([]lsq.Point, 32)
	for i := range l {
		l[i] = lsq.Point{T: 1000, V: 1<<20 - 64_000}
	}
	if r, e := lsq.Residual(l, f); r != (api.Wide{}) || e != api.ErrRange {
		t.Errorf("Residual of 32 = %v, %d", r, e)
	}
	if r, e := lsq.Residual(l[:31], f); r != (api.Wide{Hi: 31 << 58}) || e != api.OK {
		t.Errorf("Residual of 31 = %v, %d", r, e)
	}
	l[31].V--
	want := squares(deviations(l, f)).String()
	if r, e := lsq.Residual(l, f); wide.Text(r) != want || e != api.OK {
		t.Errorf("Residual of slightly less = %v, %d; want %v", wide.Text(r), e, want)
	}
}

func TestAccept(t *testing.T) {
	source := rand.New(rand.NewSource(35))
	met := map[bool]int{}
	for range 10_000 {
		l := some(source)
		f, e := lsq.Line(l)
		if e != api.OK {
			// With equal times each line through the mean is one of the best.
			f = api.Fit{A: source.Int63n(5) - 2, B: source.Int63n(3) - 1, D: 1 + source.Int63n(2)}
		}
		for _, g := range []api.Fit{f, {A: f.A + 1, B: f.B, D: f.D}, {A: f.A, B: f.B - 1, D: f.D}, {A: f.A, B: f.B, D: f.D + 1}, {A: f.A - l[0].T, B: f.B + 1, D: f.D}} {
			got := lsq.Accept(l, g)
			met[got]++
			if got != balanced(l, g) {
				t.Fatalf("Accept of %v and %v is %v", l, g, got)
			}
		}
	}
	if met[true] == 0 || met[false] == 0 {
		t.Errorf("not every case occurs: %v", met)
	}
}

func TestAcceptTells(t *testing.T) {
	l := at(0, 0, 1, 1, 2, 5)
	for _, x := range []struct {
		l    []lsq.Point
		f    api.Fit
		want bool
	}{
		{l, api.Fit{A: -3, B: 15, D: 6}, true},
		{l, api.Fit{A: -1, B: 5, D: 2}, true}, // the same line, reduced
		{l, api.Fit{A: 0, B: 15, D: 6}, false},
		{l, api.Fit{A: 2, B: 0, D: 1}, false}, // the deviations add up to 0, but not those times the times
		{at(1, 1, 2, 5, 0, 1), api.Fit{A: 1, B: 3, D: 2}, false},
		{at(0, 1, 0, 3), api.Fit{A: 2, B: 0, D: 1}, true}, // equal times
		{at(0, 1, 0, 3), api.Fit{A: 2, B: 9, D: 1}, true},
		{at(0, 1, 0, 3), api.Fit{A: 1, B: 0, D: 1}, false}, // at the time 0 nothing times the times is left
		{at(5, 1, 5, 3), api.Fit{A: -8, B: 2, D: 1}, true},
	} {
		if got := lsq.Accept(x.l, x.f); got != x.want {
			t.Errorf("Accept of %v and %v is %v", x.l, x.f, got)
		}
	}
}

// The sums of deviations have more than 64 bits: those that wrap to 0 do not add up to 0.
func TestAcceptOfGreatDeviations(t *testing.T) {
	l := make([]lsq.Point, 16)
	if f := (api.Fit{A: maxA, D: 1}); lsq.Accept(l, f) || balanced(l, f) {
		t.Error("16 deviations of 2^60 add up to 0")
	}
}

// P30.6

func TestLeast(t *testing.T) {
	source := rand.New(rand.NewSource(36))
	for _, l := range extremes() {
		if f, e := lsq.Line(l); e == api.OK && !lsq.Accept(l, f) {
			t.Fatalf("the line %v of %v is not accepted", f, l)
		}
	}
	for range 3_000 {
		l := some(source)
		f, e := lsq.Line(l)
		if e != api.OK {
			continue
		}
		if !lsq.Accept(l, f) {
			t.Fatalf("the line %v of %v is not accepted", f, l)
		}
		best := ratio(l, f)
		for range 10 {
			g := api.Fit{A: f.A + source.Int63n(7) - 3, B: f.B + source.Int63n(7) - 3, D: f.D}
			if source.Intn(2) == 0 {
				g = api.Fit{A: source.Int63n(201) - 100, B: source.Int63n(21) - 10, D: 1 + source.Int63n(9)}
			}
			if c := best.Cmp(ratio(l, g)); c > 0 || c == 0 && !lsq.Accept(l, g) {
				t.Fatalf("%v is not worse than %v for %v", g, f, l)
			}
		}
	}
}

// ratio returns the sum of the squared deviations.
func ratio(l []lsq.Point, f api.Fit) *big.Rat {
	d := big.NewInt(f.D)
	return new(big.Rat).SetFrac(squares(deviations(l, f)), mul(d, d))
}

func TestPointsMemory(t *testing.T) {
	l := at(0, 0, 1, 1, 2, 5, 77, 77)
	f, _ := lsq.Line(l[:3])
	lsq.Residual(l[:3], f)
	lsq.Accept(l[:3], f)
	if !slices.Equal(l, at(0, 0, 1, 1, 2, 5, 77, 77)) {
		t.Errorf("the points are %v", l)
	}
}
