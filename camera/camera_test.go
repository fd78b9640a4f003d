package camera_test

import (
	"fmt"
	"math"
	"math/big"
	"math/rand"
	"reflect"
	"slices"
	"strings"
	"testing"

	"scorebook/api"
	"scorebook/camera"
)

const (
	least = math.MinInt64
	most  = math.MaxInt64
)

// met counts how often each case occurs, so that a test knows that it meets them all.
type met map[any]int

func (m met) need(t *testing.T, l ...any) {
	t.Helper()
	for _, x := range l {
		if m[x] == 0 {
			t.Errorf("no case of %v", x)
		}
	}
}

// limits restates the limits of the parts of an observation.
func limits() [5][2]int64 {
	return [5][2]int64{{0, 4000}, {-300_000, 300_000}, {-50_000, 50_000}, {0, 50_000}, {1, 1000}}
}

func numbers(o api.Seen) [5]int64 { return [5]int64{o.T, o.X, o.Y, o.Z, o.Err} }

func seen(t, x, y, z, e int64) api.Seen { return api.Seen{T: t, X: x, Y: y, Z: z, Err: e} }

// track returns observations with these heights, twenty ticks apart.
func track(z ...int64) []api.Seen {
	l := []api.Seen{}
	for i, h := range z {
		l = append(l, seen(int64(20*i), 100_000-int64(3000*i), int64(i)-1, h, 20))
	}
	return l
}

// long returns n observations without an error, if there are as many.
func long(n int) []api.Seen { return track(make([]int64, n)...) }

// part returns a number from lo to hi, often one of the ends.
func part(source *rand.Rand, lo, hi int64) int64 {
	switch source.Intn(6) {
	case 0:
		return lo
	case 1:
		return hi
	}
	return lo + source.Int63n(hi-lo+1)
}

// good returns a random list without an error.
func good(source *rand.Rand) []api.Seen {
	l := []api.Seen{}
	lim := limits()
	length := source.Intn(8)
	if source.Intn(10) == 0 {
		length = 60 + source.Intn(5)
	}
	// Heights from a few let the least one occur more than once.
	top := []int64{3, 900, 2000, 50_000}[source.Intn(4)]
	at := part(source, 0, 1500)
	for range length {
		l = append(l, seen(at, part(source, lim[1][0], lim[1][1]), part(source, lim[2][0], lim[2][1]), part(source, 0, top), part(source, 1, 1000)))
		at += 1 + source.Int63n(39)
	}
	return l
}

// spoilt returns the list with one number changed, which may or may not leave it without an error.
func spoilt(source *rand.Rand, l []api.Seen) []api.Seen {
	if len(l) == 0 {
		return long(65 + source.Intn(3))
	}
	l = slices.Clone(l)
	o := &l[source.Intn(len(l))]
	k := source.Intn(5)
	lim := limits()[k]
	place := []*int64{&o.T, &o.X, &o.Y, &o.Z, &o.Err}[k]
	*place = []int64{lim[0] - 1, lim[1] + 1, lim[0], lim[1], -*place, least, most, *place - 1, *place - 30}[source.Intn(9)]
	return l
}

// checked restates the errors of a list.
func checked(l []api.Seen) (int, api.Errno) {
	if len(l) > 64 {
		return -1, api.ErrLimit
	}
	for i := range l {
		for k, n := range numbers(l[i]) {
			if lim := limits()[k]; n < lim[0] || n > lim[1] {
				return i, api.ErrRange
			}
		}
		if i > 0 && !(l[i].T > l[i-1].T) {
			return i, api.ErrOrder
		}
	}
	return -1, api.OK
}

// lists calls f with many lists, with and without errors.
func lists(f func(source *rand.Rand, l []api.Seen)) {
	source := rand.New(rand.NewSource(31))
	for range 20_000 {
		l := good(source)
		for source.Intn(3) == 0 {
			l = spoilt(source, l)
		}
		f(source, l)
	}
}

// P31.1

func TestCheck(t *testing.T) {
	m := met{}
	lists(func(_ *rand.Rand, l []api.Seen) {
		at, e := camera.Check(l)
		wantAt, want := checked(l)
		if at != wantAt || e != want {
			t.Fatalf("Check of %v = %d, %d; want %d, %d", l, at, e, wantAt, want)
		}
		m[e]++
	})
	m.need(t, api.OK, api.ErrLimit, api.ErrRange, api.ErrOrder)
}

func TestCheckTells(t *testing.T) {
	fine := seen(10, 0, 0, 0, 1)
	for _, x := range []struct {
		l  []api.Seen
		at int
		e  api.Errno
	}{
		{nil, -1, api.OK},
		{[]api.Seen{}, -1, api.OK},
		{[]api.Seen{{}}, 0, api.ErrRange},
		{[]api.Seen{seen(0, -300_000, -50_000, 0, 1)}, -1, api.OK},
		{[]api.Seen{seen(4000, 300_000, 50_000, 50_000, 1000)}, -1, api.OK},
		{[]api.Seen{seen(-1, 0, 0, 0, 1)}, 0, api.ErrRange},
		{[]api.Seen{seen(4001, 0, 0, 0, 1)}, 0, api.ErrRange},
		{[]api.Seen{seen(0, -300_001, 0, 0, 1)}, 0, api.ErrRange},
		{[]api.Seen{seen(0, 300_001, 0, 0, 1)}, 0, api.ErrRange},
		{[]api.Seen{seen(0, 0, -50_001, 0, 1)}, 0, api.ErrRange},
		{[]api.Seen{seen(0, 0, 50_001, 0, 1)}, 0, api.ErrRange},
		{[]api.Seen{seen(0, 0, 0, -1, 1)}, 0, api.ErrRange},
		{[]api.Seen{seen(0, 0, 0, 50_001, 1)}, 0, api.ErrRange},
		{[]api.Seen{seen(0, 0, 0, 0, 0)}, 0, api.ErrRange},
		{[]api.Seen{seen(0, 0, 0, 0, 1001)}, 0, api.ErrRange},
		{[]api.Seen{seen(0, least, most, 0, 1)}, 0, api.ErrRange},
		{[]api.Seen{fine, seen(11, 0, 0, 0, 1)}, -1, api.OK},
		{[]api.Seen{fine, fine}, 1, api.ErrOrder},
		{[]api.Seen{fine, seen(9, 0, 0, 0, 1)}, 1, api.ErrOrder},
		{[]api.Seen{fine, seen(10, 0, 0, 0, 0)}, 1, api.ErrRange}, // both are wrong
		{[]api.Seen{fine, seen(-1, 0, 0, 0, 1)}, 1, api.ErrRange}, // both are wrong
		{[]api.Seen{fine, fine, seen(11, 0, 0, 0, 0)}, 1, api.ErrOrder},
		{[]api.Seen{fine, seen(11, 0, 0, 0, 0), fine}, 1, api.ErrRange},
		{[]api.Seen{fine, seen(12, 0, 0, 0, 1), seen(11, 0, 0, 0, 1)}, 2, api.ErrOrder}, // that of the one before, not of the first
		{long(64), -1, api.OK},
		{long(65), -1, api.ErrLimit},
		{make([]api.Seen, 64), 0, api.ErrRange},
		{make([]api.Seen, 65), -1, api.ErrLimit},
	} {
		if at, e := camera.Check(x.l); at != x.at || e != x.e {
			t.Errorf("Check of %v = %d, %d; want %d, %d", x.l, at, e, x.at, x.e)
		}
	}
}

// P31.2

// bounces restates where the ball bounces: at an observation with heights above it before, none below it, and others on both sides.
func bounces(l []api.Seen) (int, bool) {
	if _, e := checked(l); e != api.OK {
		return 0, false
	}
	for i, o := range l {
		asLow := func(p api.Seen) bool { return p.Z <= o.Z }
		lower := func(p api.Seen) bool { return p.Z < o.Z }
		if !slices.ContainsFunc(l[:i], asLow) && !slices.ContainsFunc(l[i:], lower) {
			if i != 0 && i != len(l)-1 && o.Z <= 1000 {
				return i, true
			}
			return 0, false
		}
	}
	return 0, false
}

func TestBounceAndBehind(t *testing.T) {
	m := met{}
	lists(func(_ *rand.Rand, l []api.Seen) {
		at, ok := camera.Bounce(l)
		wantAt, want := bounces(l)
		if at != wantAt || ok != want {
			t.Fatalf("Bounce of %v = %d, %v; want %d, %v", l, at, ok, wantAt, want)
		}
		behind := l[wantAt:]
		_, e := checked(l)
		if e != api.OK {
			behind = nil
		}
		if got := camera.Behind(l); !slices.Equal(got, behind) {
			t.Fatalf("Behind of %v = %v; want %v", l, got, behind)
		}
		m[ok]++
		if e != api.OK {
			m["error"]++
		}
	})
	m.need(t, true, false, "error")
}

func TestBounceTells(t *testing.T) {
	for _, x := range []struct {
		z  []int64
		at int
		ok bool
	}{
		{[]int64{9000, 4000, 400, 3000}, 2, true},
		{[]int64{9000, 4000, 1200, 3000}, 0, false},
		{[]int64{9000, 1000, 3000}, 1, true},
		{[]int64{9000, 1001, 3000}, 0, false},
		{[]int64{9000, 0, 3000}, 1, true},
		{[]int64{1, 0, 1}, 1, true},
		{[]int64{400, 4000, 5000}, 0, false}, // the least one is the first
		{[]int64{5000, 4000, 400}, 0, false}, // the least one is the last
		{[]int64{900, 400, 400, 900}, 1, true},
		{[]int64{900, 400, 900, 400}, 1, true}, // the last one is as low
		{[]int64{400, 900, 400, 900}, 0, false},
		{[]int64{900, 900, 400}, 0, false},
		{[]int64{400, 400, 400}, 0, false},
		{[]int64{900, 500, 700, 300, 800}, 3, true},
		{[]int64{400, 900}, 0, false},
		{[]int64{400}, 0, false},
		{nil, 0, false},
	} {
		l := track(x.z...)
		if at, ok := camera.Bounce(l); at != x.at || ok != x.ok {
			t.Errorf("Bounce of %v = %d, %v; want %d, %v", x.z, at, ok, x.at, x.ok)
		}
		if got := camera.Behind(l); !slices.Equal(got, l[x.at:]) {
			t.Errorf("Behind of %v has %d", x.z, len(got))
		}
	}
}

func TestBounceWithAnError(t *testing.T) {
	l := track(9000, 400, 3000)
	l[2].Err = 0
	twice := track(9000, 400, 3000)
	twice[2].T = 20
	many := append(track(9000, 400, 3000), make([]api.Seen, 62)...)
	for _, bad := range [][]api.Seen{l, twice, many} {
		if at, ok := camera.Bounce(bad); at != 0 || ok {
			t.Errorf("Bounce of %v = %d, %v", bad, at, ok)
		}
		if got := camera.Behind(bad); len(got) != 0 {
			t.Errorf("Behind of %v = %v", bad, got)
		}
	}
}

// P31.3

// moved restates Shift.
func moved(l []api.Seen, n int64) ([]api.Seen, api.Errno) {
	if _, e := checked(l); e != api.OK {
		return nil, e
	}
	out := []api.Seen{}
	for _, o := range l {
		at := new(big.Int).Add(big.NewInt(o.T), big.NewInt(n))
		if at.Sign() < 0 || at.Cmp(big.NewInt(4000)) > 0 {
			return nil, api.ErrRange
		}
		out = append(out, seen(at.Int64(), o.X, o.Y, o.Z, o.Err))
	}
	return out, api.OK
}

func TestShift(t *testing.T) {
	m := met{}
	lists(func(source *rand.Rand, l []api.Seen) {
		ns := []int64{0, 1, -1, source.Int63n(8001) - 4000, least, least + 4000, most - 4000, most}
		if len(l) > 0 {
			first, last := l[0].T, l[len(l)-1].T
			ns = append(ns, -first, -first-1, 4000-last, 4001-last, 4000-first, -last)
		}
		for _, n := range ns {
			got, e := camera.Shift(l, n)
			want, wantE := moved(l, n)
			if !slices.Equal(got, want) || e != wantE {
				t.Fatalf("Shift of %v by %d = %v, %d; want %v, %d", l, n, got, e, want, wantE)
			}
			m[e]++
			if e == api.OK {
				if back, e := camera.Shift(got, -n); e != api.OK || !slices.Equal(back, l) {
					t.Fatalf("%v is not moved back by %d: %v, %d", l, n, back, e)
				}
			}
		}
	})
	m.need(t, api.OK, api.ErrLimit, api.ErrRange, api.ErrOrder)
}

func TestShiftTells(t *testing.T) {
	l := []api.Seen{seen(5, 1, 2, 3, 4), seen(3990, 5, 6, 7, 8)}
	for _, x := range []struct {
		l []api.Seen
		n int64
		e api.Errno
	}{
		{l, 0, api.OK},
		{l, -5, api.OK},
		{l, 10, api.OK},
		{l, -6, api.ErrRange},
		{l, 11, api.ErrRange},
		{l, most, api.ErrRange},
		{l, least, api.ErrRange},
		{nil, most, api.OK},
		{nil, least, api.OK},
		{make([]api.Seen, 65), least, api.ErrLimit},
		{[]api.Seen{l[1], l[0]}, least, api.ErrOrder},
		{[]api.Seen{seen(4001, 0, 0, 0, 1)}, -1, api.ErrRange}, // wrong before it would be moved
	} {
		got, e := camera.Shift(x.l, x.n)
		if e != x.e || e == api.OK && len(got) != len(x.l) || e != api.OK && len(got) != 0 {
			t.Errorf("Shift of %v by %d = %v, %d; want %d", x.l, x.n, got, e, x.e)
		}
	}
	got, _ := camera.Shift(l, 10)
	if want := []api.Seen{seen(15, 1, 2, 3, 4), seen(4000, 5, 6, 7, 8)}; !slices.Equal(got, want) {
		t.Errorf("Shift by 10 = %v", got)
	}
}

func TestMirror(t *testing.T) {
	m := met{}
	look := func(l []api.Seen) {
		got := camera.Mirror(l)
		if len(got) != len(l) {
			t.Fatalf("Mirror of %v = %v", l, got)
		}
		for i, o := range l {
			if o.Y == least {
				m["stays"]++
			}
			if want := seen(o.T, o.X, 0-o.Y, o.Z, o.Err); got[i] != want {
				t.Fatalf("Mirror of %v is %v", o, got[i])
			}
		}
		if back := camera.Mirror(got); !slices.Equal(back, l) {
			t.Fatalf("Mirror of Mirror of %v = %v", l, back)
		}
	}
	lists(func(_ *rand.Rand, l []api.Seen) { look(l) })
	look([]api.Seen{seen(most, most, least, least, -1), seen(0, least, most, 0, 0), seen(0, 0, least+1, 0, 0), {}})
	look(make([]api.Seen, 100))
	look(nil)
	m.need(t, "stays")
}

// P31.4

func TestTextAndParse(t *testing.T) {
	m := met{}
	lists(func(_ *rand.Rand, l []api.Seen) {
		s, e := camera.Text(l)
		_, want := checked(l)
		var lines strings.Builder
		for _, o := range l {
			fmt.Fprintf(&lines, "%d %d %d %d %d\n", o.T, o.X, o.Y, o.Z, o.Err)
		}
		m[e]++
		if e != want || e != api.OK && s != "" || e == api.OK && s != lines.String() {
			t.Fatalf("Text of %v = %q, %d; want %q, %d", l, s, e, lines.String(), want)
		}
		back, bad := camera.Parse(lines.String())
		if want == api.OK && (bad != api.OK || !slices.Equal(back, l)) || want != api.OK && (bad != api.ErrForm || len(back) != 0) {
			t.Fatalf("Parse of %q = %v, %d", lines.String(), back, bad)
		}
	})
	m.need(t, api.OK, api.ErrLimit, api.ErrRange, api.ErrOrder)
}

func TestTextTells(t *testing.T) {
	if s, e := camera.Text([]api.Seen{seen(5, 70_000, -30, 900, 20)}); s != "5 70000 -30 900 20\n" || e != api.OK {
		t.Errorf("Text = %q, %d", s, e)
	}
	if s, e := camera.Text(nil); s != "" || e != api.OK {
		t.Errorf("Text of no observation = %q, %d", s, e)
	}
	s, e := camera.Text([]api.Seen{seen(0, -300_000, 0, 0, 1), seen(4000, 1, 2, 3, 1000)})
	if s != "0 -300000 0 0 1\n4000 1 2 3 1000\n" || e != api.OK {
		t.Errorf("Text = %q, %d", s, e)
	}
}

// A text that is no Text is refused.
func TestParseTells(t *testing.T) {
	for s, n := range map[string]int{
		"":                                0,
		"5 70000 -30 900 20\n":            1,
		"0 0 0 0 1\n1 0 0 0 1\n":          2,
		"4000 -300000 50000 50000 1000\n": 1,
		"5 70000 -30 900 20":              -1,
		"5 70000 -30 900\n":               -1,
		"5 70000 -30 900 20 1\n":          -1,
		"5 70000 -30 900 20 \n":           -1,
		" 5 70000 -30 900 20\n":           -1,
		"5  70000 -30 900 20\n":           -1,
		"5\t70000 -30 900 20\n":           -1,
		"5 70000 -30 900 20\r\n":          -1,
		"5 70000 -30 900 20\n\n":          -1,
		"\n5 70000 -30 900 20\n":          -1,
		"\n":                              -1,
		"    \n":                          -1,
		"05 70000 -30 900 20\n":           -1,
		"+5 70000 -30 900 20\n":           -1,
		"5 70000 -0 900 20\n":             -1,
		"5 70000 - 900 20\n":              -1,
		"5 7e4 -30 900 20\n":              -1,
		"0x5 70000 -30 900 20\n":          -1,
		"5 70_000 -30 900 20\n":           -1,
		"5 70000 -30 900 x\n":             -1,
		"5 70000 -30 900 0\n":             -1,
		"5 70000 -30 900 1001\n":          -1,
		"-1 70000 -30 900 20\n":           -1,
		"4001 70000 -30 900 20\n":         -1,
		"5 300001 -30 900 20\n":           -1,
		"5 70000 50001 900 20\n":          -1,
		"5 70000 -30 50001 20\n":          -1,
		"5 70000 -30 -1 20\n":             -1,
		"5 99999999999999999999 0 0 1\n":  -1,
		"1 0 0 0 1\n1 0 0 0 1\n":          -1,
		"1 0 0 0 1\n0 0 0 0 1\n":          -1,
		"1 0 0 0 1\n2 0 0 0 1":            -1,
		"1 0 0 0 1\n; nothing\n":          -1,
	} {
		l, e := camera.Parse(s)
		if n < 0 && (e != api.ErrForm || len(l) != 0) || n >= 0 && (e != api.OK || len(l) != n) {
			t.Errorf("Parse of %q = %v, %d", s, l, e)
		}
	}
}

func TestParseAtTheLimit(t *testing.T) {
	for n, want := range map[int]api.Errno{63: api.OK, 64: api.OK, 65: api.ErrForm, 200: api.ErrForm} {
		var s strings.Builder
		for i := range n {
			fmt.Fprintf(&s, "%d 0 0 0 1\n", i)
		}
		if l, e := camera.Parse(s.String()); e != want || e == api.OK && len(l) != n || e != api.OK && len(l) != 0 {
			t.Errorf("Parse of %d lines = %d, %d", n, len(l), e)
		}
	}
}

// Whatever Parse accepts is the Text of what it returns.
func TestParseOfChangedTexts(t *testing.T) {
	source := rand.New(rand.NewSource(32))
	m := met{}
	for range 20_000 {
		s, _ := camera.Text(good(source))
		b := []byte(s)
		for range source.Intn(3) {
			if len(b) > 0 {
				at := source.Intn(len(b))
				b = slices.Replace(b, at, at+source.Intn(2), " \n-0123459x"[source.Intn(11)])
			}
		}
		l, e := camera.Parse(string(b))
		m[e]++
		if e == api.OK {
			if back, e := camera.Text(l); e != api.OK || back != string(b) {
				t.Fatalf("%q is read as %v, whose text is %q", b, l, back)
			}
		} else if e != api.ErrForm || len(l) != 0 {
			t.Fatalf("Parse of %q = %v, %d", b, l, e)
		}
	}
	m.need(t, api.OK, api.ErrForm)
}

// Arguments stay as they are, with their spare capacity, and results are new memory.
func TestMemory(t *testing.T) {
	whole := track(9000, 400, 3000, 7, 8)
	before := slices.Clone(whole)
	l := whole[:3]
	results := [][]api.Seen{camera.Behind(l), camera.Behind(l[:2]), camera.Mirror(l)}
	moved, _ := camera.Shift(l, 7)
	results = append(results, moved)
	stayed, _ := camera.Shift(l, 0)
	results = append(results, stayed)
	camera.Text(l)
	camera.Shift(l, 4000)
	for i, r := range results {
		r = r[:cap(r)]
		for k := range r {
			r[k] = seen(-9, -9, -9, -9, -9)
		}
		if !reflect.DeepEqual(whole, before) {
			t.Fatalf("result %d shares memory: %v", i, whole)
		}
	}
}
