package wide_test

import (
	"math"
	"math/big"
	"math/rand"
	"strings"
	"testing"

	"scorebook/api"
	"scorebook/wide"
)

const (
	least64 = math.MinInt64
	most64  = math.MaxInt64
	full    = math.MaxUint64
)

var (
	least = api.Wide{Hi: least64}
	most  = api.Wide{Hi: most64, Lo: full}
)

func bigOf(a api.Wide) *big.Int {
	x := new(big.Int).Lsh(big.NewInt(a.Hi), 64)
	return x.Add(x, new(big.Int).SetUint64(a.Lo))
}

// fromBig returns the wide integer of a value and true; zero and false if it is out of range.
func fromBig(x *big.Int) (api.Wide, bool) {
	if x.Cmp(bigOf(least)) < 0 || x.Cmp(bigOf(most)) > 0 {
		return api.Wide{}, false
	}
	hi := new(big.Int).Rsh(x, 64)
	lo := new(big.Int).Sub(x, new(big.Int).Lsh(hi, 64))
	return api.Wide{Hi: hi.Int64(), Lo: lo.Uint64()}, true
}

// edges are integers at which something changes, and others that follow from a fixed seed.
func edges() []int64 {
	out := []int64{0, least64, least64 + 1}
	for _, n := range []int64{1, 2, 3, 7, 9, 10, 11, 1<<31 - 1, 1 << 31, 1 << 32, 1_000_000_007, 1 << 62, 1<<62 + 1, most64 - 1, most64} {
		out = append(out, n, -n)
	}
	source := rand.New(rand.NewSource(2))
	for range 10 {
		n := int64(source.Uint64())
		out = append(out, n, n>>20)
	}
	return out
}

func wideEdges() []api.Wide {
	out := []api.Wide{}
	for _, hi := range []int64{0, 1, -1, 2, -2, 3, 5, -5, 1 << 32, -1 << 32, 1 << 61, 1<<62 - 1, 1 << 62, -1 << 62, most64, most64 - 1, least64, least64 + 1} {
		for _, lo := range []uint64{0, 1, 2, 9, 10, 1 << 32, 1<<63 - 1, 1 << 63, 1<<63 + 1, full - 1, full} {
			out = append(out, api.Wide{Hi: hi, Lo: lo})
		}
	}
	source := rand.New(rand.NewSource(3))
	for range 20 {
		hi := int64(source.Uint64())
		out = append(out, api.Wide{Hi: hi, Lo: source.Uint64()}, api.Wide{Hi: hi >> 40, Lo: source.Uint64()})
	}
	return out
}

func checkWide(t *testing.T, what string, got api.Wide, ok bool, want *big.Int) {
	t.Helper()
	if w, fits := fromBig(want); got != w || ok != fits {
		t.Errorf("%s = %v, %v; want %v, %v", what, got, ok, w, fits)
	}
}

// P2.1

func TestOf(t *testing.T) {
	for _, n := range edges() {
		if w := wide.Of(n); bigOf(w).Cmp(big.NewInt(n)) != 0 {
			t.Errorf("Of(%d) = %v", n, w)
		}
	}
	if w := wide.Of(-1); w != (api.Wide{Hi: -1, Lo: full}) {
		t.Errorf("Of(-1) = %v", w)
	}
}

func TestAddAndSub(t *testing.T) {
	for _, a := range wideEdges() {
		for _, b := range wideEdges() {
			x, y := bigOf(a), bigOf(b)
			sum, ok := wide.Add(a, b)
			checkWide(t, "Add "+x.String()+" "+y.String(), sum, ok, new(big.Int).Add(x, y))
			rest, ok := wide.Sub(a, b)
			checkWide(t, "Sub "+x.String()+" "+y.String(), rest, ok, new(big.Int).Sub(x, y))
		}
	}
}

func TestNeg(t *testing.T) {
	for _, a := range wideEdges() {
		w, ok := wide.Neg(a)
		checkWide(t, "Neg "+bigOf(a).String(), w, ok, new(big.Int).Neg(bigOf(a)))
	}
	if w, ok := wide.Neg(least); ok || w != (api.Wide{}) {
		t.Errorf("Neg of the least one = %v, %v", w, ok)
	}
}

func TestSumsOutOfRange(t *testing.T) {
	one := wide.Of(1)
	if w, ok := wide.Add(most, one); ok || w != (api.Wide{}) {
		t.Errorf("the greatest one plus 1 = %v, %v", w, ok)
	}
	if w, ok := wide.Add(least, wide.Of(-1)); ok || w != (api.Wide{}) {
		t.Errorf("the least one plus -1 = %v, %v", w, ok)
	}
	if w, ok := wide.Sub(least, one); ok || w != (api.Wide{}) {
		t.Errorf("the least one less 1 = %v, %v", w, ok)
	}
	if w, ok := wide.Sub(api.Wide{}, least); ok || w != (api.Wide{}) {
		t.Errorf("0 less the least one = %v, %v", w, ok)
	}
	if w, ok := wide.Sub(wide.Of(-1), least); !ok || w != most {
		t.Errorf("-1 less the least one = %v, %v", w, ok)
	}
}

func TestMul(t *testing.T) {
	if w := wide.Mul(1<<62, 4); w != (api.Wide{Hi: 1}) {
		t.Errorf("2^62 * 4 = %v", w)
	}
	if w := wide.Mul(least64, least64); w != (api.Wide{Hi: 1 << 62}) {
		t.Errorf("-2^63 * -2^63 = %v", w)
	}
	for _, a := range edges() {
		for _, b := range edges() {
			want, _ := fromBig(new(big.Int).Mul(big.NewInt(a), big.NewInt(b)))
			if w := wide.Mul(a, b); w != want {
				t.Errorf("Mul(%d, %d) = %v; want %v", a, b, w, want)
			}
		}
	}
}

func TestScale(t *testing.T) {
	for _, a := range wideEdges() {
		for _, n := range edges() {
			x, y := bigOf(a), big.NewInt(n)
			w, ok := wide.Scale(a, n)
			checkWide(t, "Scale "+x.String()+" "+y.String(), w, ok, new(big.Int).Mul(x, y))
		}
	}
	if w, ok := wide.Scale(api.Wide{Hi: 1 << 62}, -2); !ok || w != least {
		t.Errorf("2^126 * -2 = %v, %v", w, ok)
	}
	if w, ok := wide.Scale(api.Wide{Hi: 1 << 62}, 2); ok || w != (api.Wide{}) {
		t.Errorf("2^126 * 2 = %v, %v", w, ok)
	}
	if w, ok := wide.Scale(least, -1); ok || w != (api.Wide{}) {
		t.Errorf("-2^127 * -1 = %v, %v", w, ok)
	}
}

// P2.2

func TestDiv(t *testing.T) {
	q, rest, ok := wide.Div(api.Wide{Hi: 1}, 10)
	if q != wide.Of(1844674407370955161) || rest != 6 || !ok {
		t.Errorf("2^64 / 10 = %v, rest %d, %v", q, rest, ok)
	}
	for _, x := range []struct {
		a, d, q int64
		rest    uint64
	}{{-7, 2, -4, 1}, {-7, -2, 4, 1}, {7, -2, -3, 1}, {7, 2, 3, 1}, {6, 3, 2, 0}, {-6, 3, -2, 0}, {-6, -3, 2, 0}, {6, -3, -2, 0}, {0, -5, 0, 0}, {-1, least64, 1, 1<<63 - 1}, {1, least64, 0, 1}, {least64, least64, 1, 0}} {
		q, rest, ok := wide.Div(wide.Of(x.a), x.d)
		if q != wide.Of(x.q) || rest != x.rest || !ok {
			t.Errorf("%d / %d = %v, rest %d, %v; want %d, rest %d", x.a, x.d, q, rest, ok, x.q, x.rest)
		}
	}
}

func TestDivAgainstBig(t *testing.T) {
	for _, a := range wideEdges() {
		for _, d := range edges() {
			if d == 0 {
				continue
			}
			x, y := bigOf(a), big.NewInt(d)
			quotient, modulus := new(big.Int).DivMod(x, y, new(big.Int))
			want, fits := fromBig(quotient)
			wantRest := modulus.Uint64()
			q, rest, ok := wide.Div(a, d)
			if q != want || rest != wantRest || ok != fits {
				t.Errorf("%v / %d = %v, rest %d, %v; want %v, rest %d, %v", x, d, q, rest, ok, want, wantRest, fits)
			}
		}
	}
}

func TestDivRefused(t *testing.T) {
	for _, a := range wideEdges() {
		if q, rest, ok := wide.Div(a, 0); q != (api.Wide{}) || rest != 0 || ok {
			t.Errorf("%v / 0 = %v, rest %d, %v", a, q, rest, ok)
		}
	}
	if q, rest, ok := wide.Div(least, -1); q != (api.Wide{}) || rest != 0 || ok {
		t.Errorf("-2^127 / -1 = %v, rest %d, %v", q, rest, ok)
	}
	if q, rest, ok := wide.Div(least, 1); q != least || rest != 0 || !ok {
		t.Errorf("-2^127 / 1 = %v, rest %d, %v", q, rest, ok)
	}
}

// P2.3

func TestCmpAndSign(t *testing.T) {
	for _, a := range wideEdges() {
		for _, b := range wideEdges() {
			if c, want := wide.Cmp(a, b), bigOf(a).Cmp(bigOf(b)); c != want {
				t.Fatalf("Cmp(%v, %v) = %d; want %d", a, b, c, want)
			}
		}
		if s, want := wide.Sign(a), bigOf(a).Sign(); s != want {
			t.Errorf("Sign(%v) = %d; want %d", a, s, want)
		}
	}
}

func TestFits(t *testing.T) {
	for _, n := range edges() {
		if got, ok := wide.Fits(wide.Of(n)); got != n || !ok {
			t.Errorf("Fits(Of(%d)) = %d, %v", n, got, ok)
		}
	}
	for _, a := range wideEdges() {
		var want int64
		fits := bigOf(a).IsInt64()
		if fits {
			want = bigOf(a).Int64()
		}
		if n, ok := wide.Fits(a); n != want || ok != fits {
			t.Errorf("Fits(%v) = %d, %v; want %d, %v", a, n, ok, want, fits)
		}
	}
	for _, a := range []api.Wide{{Lo: 1 << 63}, {Hi: -1, Lo: 1<<63 - 1}, {Hi: 1, Lo: 5}, {Hi: -2, Lo: full}, least, most} {
		if n, ok := wide.Fits(a); n != 0 || ok {
			t.Errorf("Fits(%v) = %d, %v", a, n, ok)
		}
	}
}

// P2.4

func TestText(t *testing.T) {
	for _, x := range []struct {
		a    api.Wide
		want string
	}{{api.Wide{}, "0"}, {wide.Of(-1), "-1"}, {wide.Of(10), "10"}, {wide.Of(-7), "-7"}, {api.Wide{Hi: 1}, "18446744073709551616"}, {most, "170141183460469231731687303715884105727"}, {least, "-170141183460469231731687303715884105728"}} {
		if s := wide.Text(x.a); s != x.want {
			t.Errorf("Text(%v) = %q; want %q", x.a, s, x.want)
		}
	}
}

func TestTextAndParse(t *testing.T) {
	for _, a := range wideEdges() {
		s := wide.Text(a)
		if s != bigOf(a).String() {
			t.Errorf("Text(%v) = %q; want %q", a, s, bigOf(a))
		}
		if w, e := wide.Parse(s); w != a || e != api.OK {
			t.Errorf("Parse(%q) = %v, %d; want %v", s, w, e, a)
		}
	}
}

func TestParseErrors(t *testing.T) {
	for _, s := range []string{
		"", "-", "--1", "+1", "-0", "00", "007", "-01", " 1", "1 ", "1_000", "0x10", "1e3", "1.0", "1-", "1a", "a", "/", ":", "١", "1\x00",
		"170141183460469231731687303715884105728",
		"-170141183460469231731687303715884105729",
		"340282366920938463463374607431768211455",
		"340282366920938463463374607431768211456",
		"340282366920938463463374607431768211457",
		"-340282366920938463463374607431768211455",
		"-340282366920938463463374607431768211457",
		"999999999999999999999999999999999999999",
		"-999999999999999999999999999999999999999",
		"1000000000000000000000000000000000000000",
		"0000000000000000000000000000000000000001",
		strings.Repeat("9", 10_000),
		"-" + strings.Repeat("9", 10_000),
		strings.Repeat("0", 10_000) + "1",
	} {
		if w, e := wide.Parse(s); w != (api.Wide{}) || e != api.ErrForm {
			t.Errorf("Parse(%q) = %v, %d", s, w, e)
		}
	}
}
