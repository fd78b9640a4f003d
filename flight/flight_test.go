package flight_test

import (
	"math"
	"math/big"
	"math/rand"
	"slices"
	"testing"

	"scorebook/api"
	"scorebook/camera"
	"scorebook/flight"
	"scorebook/lsq"
)

const (
	least = math.MinInt64
	most  = math.MaxInt64
)

// met counts how often each case occurs, so that a test knows that it meets them all.
type met map[any]int

func (m met) need(t *testing.T, l ...any) {
	t.Helper()
	for _, x := range l {
		if m[x] == 0 {
			t.Errorf("no case of %v", x)
		}
	}
}

func seen(t, x, y, z, e int64) api.Seen { return api.Seen{T: t, X: x, Y: y, Z: z, Err: e} }

// rounded returns n / d, d above 0, rounded to the nearest integer, halves up.
func rounded(n, d *big.Int) int64 {
	twice := new(big.Int).Add(new(big.Int).Lsh(n, 1), d)
	// The quotient of big's Div is rounded down for a positive divisor.
	return twice.Div(twice, new(big.Int).Lsh(d, 1)).Int64()
}

// fallen restates by how much a ball falls in t ticks, times Scale.
func fallen(t int64) *big.Int {
	n := new(big.Int).Mul(big.NewInt(t), big.NewInt(t))
	return n.Mul(n, big.NewInt(981))
}

// P32.1

func TestRaise(t *testing.T) {
	m := met{}
	times := []int64{least, -1, 0, 1, 2, 20, 4000, 7999, 8000, 8001, most}
	heights := []int64{least, -1_000_001, -1_000_000, -999_999, -1, 0, 1, 300, 50_000, 999_999, 1_000_000, 1_000_001, most}
	source := rand.New(rand.NewSource(32))
	for range 50 {
		times = append(times, source.Int63n(8001))
		heights = append(heights, source.Int63n(2_000_001)-1_000_000)
	}
	for _, at := range times {
		for _, z := range heights {
			want := new(big.Int)
			in := 0 <= at && at <= 8000 && -1_000_000 <= z && z <= 1_000_000
			if in {
				want.Mul(big.NewInt(z), big.NewInt(80_000))
				want.Add(want, fallen(at))
			}
			if got := flight.Raise(at, z); big.NewInt(got).Cmp(want) != 0 {
				t.Fatalf("Raise(%d, %d) = %d, want %v", at, z, got, want)
			}
			m[in]++
		}
	}
	m.need(t, true, false)
}

func TestRaiseTells(t *testing.T) {
	for _, x := range []struct{ t, z, want int64 }{
		{0, 300, 24_000_000},
		{20, 300, 24_392_400},
		{0, 0, 0},
		{1, 0, 981},
		{8000, 1_000_000, 142_784_000_000},
		{8000, -1_000_000, -17_216_000_000},
		{8001, 1, 0},
		{-1, 1, 0},
		{1, 1_000_001, 0},
		{1, -1_000_001, 0},
	} {
		if got := flight.Raise(x.t, x.z); got != x.want {
			t.Errorf("Raise(%d, %d) = %d, want %d", x.t, x.z, got, x.want)
		}
	}
}

// P32.2

// track returns random observations: some without an error, some with a bounce.
func track(source *rand.Rand) []api.Seen {
	length := source.Intn(7)
	if source.Intn(8) == 0 {
		length = 62 + source.Intn(4)
	}
	top := []int64{5, 3000, 50_001}[source.Intn(3)]
	wide := []int64{5, 300_000}[source.Intn(2)]
	l := []api.Seen{}
	at := source.Int63n(1500)
	for range length {
		l = append(l, seen(at, source.Int63n(2*wide+1)-wide, source.Int63n(100_001)-50_000, source.Int63n(top), 1+source.Int63n(1000)))
		at += 1 + source.Int63n(39)
	}
	if length > 0 && source.Intn(6) == 0 {
		o := &l[source.Intn(length)]
		switch source.Intn(3) {
		case 0:
			o.Err = 0
		case 1:
			o.T -= 40
		case 2:
			o.Z = 50_001
		}
	}
	if length > 1 && source.Intn(4) == 0 {
		l[0].T, l[length-1].T = 0, 4000
	}
	return l
}

// points restates through which points the line of an axis goes.
func points(l []api.Seen, axis int) []lsq.Point {
	out := []lsq.Point{}
	for _, o := range camera.Behind(l) {
		v := []int64{o.X, o.Y, 0}[axis]
		if axis == 2 {
			raised := new(big.Int).Mul(big.NewInt(o.Z), big.NewInt(80_000))
			v = rounded(raised.Add(raised, fallen(o.T)), big.NewInt(80_000))
		}
		out = append(out, lsq.Point{T: o.T, V: v})
	}
	return out
}

func axes(f api.Flight) []api.Fit { return []api.Fit{f.X, f.Y, f.Z} }

func TestFit(t *testing.T) {
	source := rand.New(rand.NewSource(33))
	m := met{}
	for range 10_000 {
		l := track(source)
		got, e := flight.Fit(l)
		_, want := camera.Check(l)
		if want == api.OK && len(camera.Behind(l)) < 2 {
			want = api.ErrArg
		}
		m[e]++
		if e != want || e != api.OK && got != (api.Flight{}) {
			t.Fatalf("Fit of %v = %v, %d; want %d", l, got, e, want)
		}
		if e != api.OK {
			continue
		}
		_, bounced := camera.Bounce(l)
		m[bounced]++
		for axis, f := range axes(got) {
			line, bad := lsq.Line(points(l, axis))
			if f != line || bad != api.OK || !lsq.Accept(points(l, axis), f) {
				t.Fatalf("Fit of %v has the line %v on axis %d; want %v", l, f, axis, line)
			}
		}
	}
	m.need(t, api.OK, api.ErrArg, api.ErrLimit, api.ErrRange, api.ErrOrder, true, false)
}

func TestFitTells(t *testing.T) {
	two := []api.Seen{seen(0, 1000, 10, 300, 5), seen(20, 400, 30, 300, 5)}
	for _, x := range []struct {
		l    []api.Seen
		want api.Flight
		e    api.Errno
	}{
		{two, api.Flight{X: api.Fit{A: 400_000, B: -12_000, D: 400}, Y: api.Fit{A: 4000, B: 400, D: 400}, Z: api.Fit{A: 120_000, B: 100, D: 400}}, api.OK},
		// What was seen before the bounce does not count.
		{[]api.Seen{seen(0, 9, 9, 9000, 5), seen(10, 100, 0, 0, 5), seen(20, 50, 0, 0, 5)}, api.Flight{X: api.Fit{A: 15_000, B: -500, D: 100}, Y: api.Fit{D: 100}, Z: api.Fit{A: -300, B: 40, D: 100}}, api.OK},
		{nil, api.Flight{}, api.ErrArg},
		{two[:1], api.Flight{}, api.ErrArg},
		{[]api.Seen{seen(0, 0, 0, 0, 0)}, api.Flight{}, api.ErrRange},
		{[]api.Seen{two[1], two[0]}, api.Flight{}, api.ErrOrder},
		{[]api.Seen{two[0], two[0]}, api.Flight{}, api.ErrOrder},
		{make([]api.Seen, 65), api.Flight{}, api.ErrLimit},
	} {
		if got, e := flight.Fit(x.l); got != x.want || e != x.e {
			t.Errorf("Fit of %v = %v, %d; want %v, %d", x.l, got, e, x.want, x.e)
		}
	}
}

// The height with gravity taken out is rounded to the nearest integer, halves up: 981 t t / 80000 has the rest 1/2 at the time 200.
func TestFitRounds(t *testing.T) {
	for _, x := range []struct{ t, raised int64 }{{0, 0}, {6, 0}, {7, 1}, {11, 1}, {12, 2}, {200, 491}, {199, 486}, {4000, 196_200}} {
		l := []api.Seen{seen(x.t, 0, 0, 0, 1), seen(x.t+1, 0, 0, 0, 1)}
		if x.t == 4000 {
			l = []api.Seen{seen(x.t-1, 0, 0, 0, 1), seen(x.t, 0, 0, 0, 1)}
		}
		f, e := flight.Fit(l)
		v, bad := lsq.At(f.Z, x.t)
		if v != x.raised || e != api.OK || bad != api.OK {
			t.Errorf("at %d the raised height is %d, want %d", x.t, v, x.raised)
		}
	}
}

// P32.3

// place restates the value of a line at a time, and its error.
func place(f api.Fit, at int64) (int64, api.Errno) {
	if f.D < 1 || f.D > 1<<40 || f.A < -1<<60 || f.A > 1<<60 || f.B < -1<<46 || f.B > 1<<46 {
		return 0, api.ErrArg
	}
	if at < 0 || at > 8000 {
		return 0, api.ErrRange
	}
	n := new(big.Int).Mul(big.NewInt(f.B), big.NewInt(at))
	return rounded(n.Add(n, big.NewInt(f.A)), big.NewInt(f.D)), api.OK
}

// drawn restates the place of a flight at a time.
func drawn(f api.Flight, at int64) (out [3]int64, e api.Errno) {
	for i, line := range axes(f) {
		v, bad := place(line, at)
		if bad != api.OK {
			return [3]int64{}, bad
		}
		out[i] = v
	}
	out[2] -= rounded(fallen(at), big.NewInt(80_000))
	return out, api.OK
}

// line returns a random line, which may be one that is not accepted.
func line(source *rand.Rand) api.Fit {
	f := api.Fit{A: source.Int63n(2001) - 1000, B: source.Int63n(2001) - 1000, D: 1 + source.Int63n(9)}
	switch source.Intn(12) {
	case 0:
		f.D = []int64{0, -1, 1<<40 + 1, least, most}[source.Intn(5)]
	case 1:
		f.A = []int64{1<<60 + 1, -1<<60 - 1, least, most}[source.Intn(4)]
	case 2:
		f.B = []int64{1<<46 + 1, -1<<46 - 1, least, most}[source.Intn(4)]
	case 3, 4:
		f = api.Fit{A: []int64{1 << 60, -1 << 60}[source.Intn(2)], B: []int64{1 << 46, -1 << 46}[source.Intn(2)], D: []int64{1, 1 << 40}[source.Intn(2)]}
	}
	return f
}

func times(source *rand.Rand) []int64 {
	return []int64{least, -1, 0, 1, source.Int63n(8001), 200, 7999, 8000, 8001, most}
}

func TestAt(t *testing.T) {
	source := rand.New(rand.NewSource(34))
	m := met{}
	for range 10_000 {
		f := api.Flight{X: line(source), Y: line(source), Z: line(source)}
		for _, at := range times(source) {
			x, y, z, e := flight.At(f, at)
			want, wantE := drawn(f, at)
			if [3]int64{x, y, z} != want || e != wantE {
				t.Fatalf("At of %v at %d = %d, %d, %d, %d; want %v, %d", f, at, x, y, z, e, want, wantE)
			}
			m[e]++
		}
	}
	m.need(t, api.OK, api.ErrArg, api.ErrRange)
}

func TestAtTells(t *testing.T) {
	f, _ := flight.Fit([]api.Seen{seen(0, 1000, 10, 300, 5), seen(20, 400, 30, 300, 5)})
	level := api.Fit{A: 0, B: 0, D: 1}
	half := api.Fit{A: -1, B: 0, D: 2}
	for _, x := range []struct {
		f       api.Flight
		t       int64
		x, y, z int64
		e       api.Errno
	}{
		{f, 0, 1000, 10, 300, api.OK},
		{f, 10, 700, 20, 302, api.OK},
		{f, 20, 400, 30, 300, api.OK},
		{f, 40, -200, 50, 290, api.OK},
		{api.Flight{X: half, Y: half, Z: half}, 0, 0, 0, 0, api.OK}, // -1/2 is rounded up
		{api.Flight{X: level, Y: level, Z: level}, 6, 0, 0, 0, api.OK},
		{api.Flight{X: level, Y: level, Z: level}, 7, 0, 0, -1, api.OK},
		{api.Flight{X: level, Y: level, Z: level}, 200, 0, 0, -491, api.OK}, // 490.5 is rounded up before it is taken away
		{api.Flight{X: level, Y: level, Z: half}, 200, 0, 0, -491, api.OK},  // both are rounded, not their difference
		{api.Flight{X: level, Y: level, Z: level}, 8000, 0, 0, -784_800, api.OK},
		{api.Flight{}, 1, 0, 0, 0, api.ErrArg},
		{f, -1, 0, 0, 0, api.ErrRange},
		{f, 8001, 0, 0, 0, api.ErrRange},
		{api.Flight{Y: level, Z: level}, -1, 0, 0, 0, api.ErrArg},
		{api.Flight{X: level, Z: level}, -1, 0, 0, 0, api.ErrRange}, // the error of X goes first
		{api.Flight{X: level, Y: level}, 8001, 0, 0, 0, api.ErrRange},
		{api.Flight{X: level, Z: level}, 1, 0, 0, 0, api.ErrArg},
		{api.Flight{X: level, Y: level}, 1, 0, 0, 0, api.ErrArg},
	} {
		px, py, pz, e := flight.At(x.f, x.t)
		if px != x.x || py != x.y || pz != x.z || e != x.e {
			t.Errorf("At of %v at %d = %d, %d, %d, %d; want %d, %d, %d, %d", x.f, x.t, px, py, pz, e, x.x, x.y, x.z, x.e)
		}
	}
}

// P32.4

// drawing restates Draw.
func drawing(f api.Flight, from, to, step int64) ([]api.Seen, api.Errno) {
	switch {
	case from < 0 || to > 8000:
		return nil, api.ErrRange
	case step < 1 || from > to:
		return nil, api.ErrArg
	}
	at := []int64{}
	for n := big.NewInt(from); n.Cmp(big.NewInt(to)) <= 0; n.Add(n, big.NewInt(step)) {
		at = append(at, n.Int64())
	}
	if len(at) > 64 {
		return nil, api.ErrLimit
	}
	out := []api.Seen{}
	for _, n := range at {
		p, e := drawn(f, n)
		if e != api.OK {
			return nil, e
		}
		out = append(out, seen(n, p[0], p[1], p[2], 0))
	}
	return out, api.OK
}

func TestDraw(t *testing.T) {
	source := rand.New(rand.NewSource(35))
	m := met{}
	for range 20_000 {
		f := api.Flight{X: line(source), Y: line(source), Z: line(source)}
		from, to := times(source)[source.Intn(10)], times(source)[source.Intn(10)]
		if source.Intn(2) == 0 {
			from = source.Int63n(7000)
			to = from + source.Int63n(1001)
		}
		steps := []int64{least, -1, 0, 1, 2, 1 + source.Int63n(200), to - from, most, (to - from) / 64, (to - from) / 63}
		step := steps[source.Intn(len(steps))]
		got, e := flight.Draw(f, from, to, step)
		want, wantE := drawing(f, from, to, step)
		if !slices.Equal(got, want) || e != wantE {
			t.Fatalf("Draw of %v from %d to %d by %d = %v, %d; want %v, %d", f, from, to, step, got, e, want, wantE)
		}
		m[e]++
		if e == api.OK {
			m[len(got)]++
		}
	}
	m.need(t, api.OK, api.ErrArg, api.ErrRange, api.ErrLimit, 1, 2, 63, 64)
}

func TestDrawTells(t *testing.T) {
	level := api.Fit{A: 0, B: 0, D: 1}
	f := api.Flight{X: level, Y: level, Z: level}
	bad := api.Flight{}
	for _, x := range []struct {
		f              api.Flight
		from, to, step int64
		n              int
		e              api.Errno
	}{
		{f, 0, 45, 20, 3, api.OK},
		{f, 0, 40, 20, 3, api.OK},
		{f, 0, 39, 20, 2, api.OK},
		{f, 5, 5, 1, 1, api.OK},
		{f, 0, 8000, 8000, 2, api.OK},
		{f, 0, 8000, most, 1, api.OK},
		{f, 8000, 8000, most, 1, api.OK},
		{f, 1, 8000, most - 1, 1, api.OK},
		{f, 0, 63, 1, 64, api.OK},
		{f, 0, 64, 1, 0, api.ErrLimit},
		{f, 7937, 8000, 1, 64, api.OK},
		{f, 0, 127, 2, 64, api.OK},
		{f, 0, 128, 2, 0, api.ErrLimit},
		{f, 0, 8000, 1, 0, api.ErrLimit},
		{f, -1, 4, 1, 0, api.ErrRange},
		{f, 0, 8001, 1, 0, api.ErrRange},
		{f, least, most, 1, 0, api.ErrRange},
		{f, -1, -2, 0, 0, api.ErrRange},
		{f, 8001, 8001, 1, 0, api.ErrRange},
		{f, 8001, 8000, 1, 0, api.ErrArg},
		{f, 5, 4, 1, 0, api.ErrArg},
		{f, 0, -1, 1, 0, api.ErrArg},
		{f, 0, least, 1, 0, api.ErrArg},
		{f, most, 0, 1, 0, api.ErrArg},
		{f, 0, 4, 0, 0, api.ErrArg},
		{f, 0, 4, -1, 0, api.ErrArg},
		{f, 0, 8000, 0, 0, api.ErrArg},
		{bad, 0, 4, 1, 0, api.ErrArg},
		{bad, 0, 64, 1, 0, api.ErrLimit},
		{bad, -1, 4, 1, 0, api.ErrRange},
	} {
		got, e := flight.Draw(x.f, x.from, x.to, x.step)
		if len(got) != x.n || e != x.e {
			t.Errorf("Draw from %d to %d by %d = %v, %d; want %d, %d", x.from, x.to, x.step, got, e, x.n, x.e)
		}
	}
}

// Arguments stay as they are, with their spare capacity.
func TestMemory(t *testing.T) {
	whole := []api.Seen{seen(0, 1, 2, 9000, 5), seen(10, 100, 0, 0, 5), seen(20, 50, 0, 10, 5), seen(7, 7, 7, 7, 7)}
	before := slices.Clone(whole)
	f, e := flight.Fit(whole[:3])
	one, bad := flight.Draw(f, 0, 100, 10)
	two, _ := flight.Draw(f, 0, 100, 10)
	for i := range one {
		one[i].X = -9
	}
	if e != api.OK || bad != api.OK || !slices.Equal(whole, before) || two[0].X == -9 {
		t.Errorf("memory is shared: %v, %v, %d, %d", whole, two, e, bad)
	}
}
