package boxed_test

import (
	"fmt"
	"math"
	"slices"
	"testing"

	"scorebook/api"
	"scorebook/boxed"
	"scorebook/delivery"
	"scorebook/dismissal"
	"scorebook/samples"
)

// fives returns rules by which a wide and a no-ball cost as much as they may.
func fives() api.Rules {
	r := samples.Limited()
	r.Wide, r.NoBall = 5, 5
	return r
}

// forEachDelivery calls f with deliveries of all types, sources, runs and ways of being out, whether they are legal or not.
func forEachDelivery(f func(d api.Delivery)) {
	for t := api.Type(0); t <= api.NoBall+1; t++ {
		for source := api.NoRuns; source <= api.LegByes+1; source++ {
			for how := api.NotOut; how <= api.RetiredOut+1; how++ {
				for _, boundary := range []int{0, 4, 6, 5} {
					for runs := -1; runs <= api.MaxRun+1; runs++ {
						for short := range max(runs, 0) + 1 {
							for k := range 12 {
								f(api.Delivery{Type: t, Source: source, Runs: runs, Short: short, Boundary: boundary, Crossed: k >= 6, How: how, Victim: k % 3, Fielder: k / 3 % 2})
							}
						}
					}
				}
			}
		}
	}
}

func TestFits(t *testing.T) {
	met := map[bool]int{}
	forEachDelivery(func(d api.Delivery) {
		want := delivery.Legal(d) == api.Legal && dismissal.Possible(d, false) == api.Legal
		if boxed.Fits(d) != want {
			t.Fatalf("%+v: %t", d, !want)
		}
		met[want]++
	})
	if met[true] < 500 || met[false] < 100_000 {
		t.Errorf("met: %v", met)
	}
}

// What is read from a symbol is a delivery with the same symbol, runs, extras and balls.
func TestReadOfAllSymbols(t *testing.T) {
	for _, r := range []api.Rules{samples.Limited(), samples.Long(), fives()} {
		symbols := map[string]bool{}
		forEachDelivery(func(d api.Delivery) {
			if !boxed.Fits(d) {
				return
			}
			s := boxed.Box(r, d)
			symbols[s] = true
			got, ok := boxed.Read(r, s)
			if !ok || !boxed.Fits(got) || boxed.Box(r, got) != s {
				t.Fatalf("%q of %+v is read as %+v, %t", s, d, got, ok)
			}
			a, b := delivery.Credit(r, d), delivery.Credit(r, got)
			a.Swap, b.Swap = false, false
			if a != b || (d.How == api.NotOut) != (got.How == api.NotOut) {
				t.Fatalf("%q of %+v is read as %+v", s, d, got)
			}
			if n, ok := boxed.Runs(boxed.Strip(r, d)); ok != a.Faced || n != a.Batter {
				t.Fatalf("the strip %q of %+v has %d runs, %t", boxed.Strip(r, d), d, n, ok)
			}
		})
		// Those of fair deliveries, wides and no-balls.
		if len(symbols) != 57+21+56 {
			t.Errorf("%+v: %d symbols", r, len(symbols))
		}
		pieces := []string{"", "w", "n", ".", "b", "l", "W", "R", "0", "1", "2", "3", "11", "12", "16", "17", " ", "-1", "+", "r"}
		for _, a := range pieces {
			for _, b := range pieces {
				for _, c := range pieces {
					for _, d := range pieces {
						s := a + b + c + d
						if _, ok := boxed.Read(r, s); ok != symbols[s] {
							t.Fatalf("%q: %t", s, ok)
						}
					}
				}
			}
		}
	}
}

// Read takes any rules.
func TestReadOfAnyRules(t *testing.T) {
	for _, n := range []int{math.MinInt, -1, 0, 99, 100, math.MaxInt} {
		for _, s := range []string{"", ".", "w1", "n1", "w99", "n99b1", "w0", "n.", "wW", "n1R"} {
			r := api.Rules{Wide: n, NoBall: n}
			if d, ok := boxed.Read(r, s); ok && boxed.Box(r, d) != s || !ok && d != (api.Delivery{}) {
				t.Errorf("%d, %q: %+v, %t", n, s, d, ok)
			}
		}
	}
}

func TestRuns(t *testing.T) {
	for n := -1; n <= 20; n++ {
		s := fmt.Sprint(n)
		if got, ok := boxed.Runs(s); ok != (n >= 1 && n <= 11) || ok && got != n || !ok && got != 0 {
			t.Errorf("%q: %d, %t", s, got, ok)
		}
	}
	if n, ok := boxed.Runs("."); n != 0 || !ok {
		t.Errorf("no runs: %d, %t", n, ok)
	}
	for _, s := range []string{"", "..", ".1", "1.", "01", "+1", " 1", "1 ", "1R", "w1", "99999999999999999999", "\x00"} {
		if n, ok := boxed.Runs(s); n != 0 || ok {
			t.Errorf("%q: %d, %t", s, n, ok)
		}
	}
}

func TestTooMany(t *testing.T) {
	const most = api.MaxEvents
	of := func(n int) []string { return slices.Repeat([]string{"."}, n) }
	for _, x := range []struct {
		name string
		b    api.Book
		want bool
	}{
		{"nothing", api.Book{}, false},
		{"as many of all as there may be", api.Book{
			Boxes: append(make([]api.Box, most-1), api.Box{Symbols: of(most)}), Strips: append(make([]api.Strip, most-1), api.Strip{Symbols: of(most)})}, false},
		{"boxes", api.Book{Boxes: make([]api.Box, most+1)}, true},
		{"strips", api.Book{Strips: make([]api.Strip, most+1)}, true},
		{"symbols of a box", api.Book{Boxes: []api.Box{{Symbols: of(most + 1)}}}, true},
		{"symbols of boxes", api.Book{Boxes: []api.Box{{Symbols: of(most / 2)}, {Symbols: of(most/2 + 1)}}}, true},
		{"symbols of a strip", api.Book{Strips: []api.Strip{{Symbols: of(most + 1)}}}, true},
		{"symbols of strips", api.Book{Strips: []api.Strip{{Symbols: of(1)}, {Symbols: of(most)}}}, true},
		{"symbols of a box and of a strip", api.Book{Boxes: []api.Box{{Symbols: of(most)}}, Strips: []api.Strip{{Symbols: of(most)}}}, false},
	} {
		if got := boxed.TooMany(x.b); got != x.want {
			t.Errorf("%s: %t", x.name, got)
		}
	}
}
