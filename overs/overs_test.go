package overs_test

import (
	"math"
	"math/rand"
	"strconv"
	"strings"
	"testing"

	"scorebook/api"
	"scorebook/overs"
)

const most = 1_000_000

// wrongPers are no numbers of balls of an over.
func wrongPers() []int { return []int{0, -1, 9, 100, math.MinInt, math.MaxInt} }

// wrongCounts are no numbers of balls or runs.
func wrongCounts() []int { return []int{-1, most + 1, math.MinInt, math.MaxInt} }

// someCounts are numbers of balls or runs: edges, and others that follow from a fixed seed.
func someCounts() []int {
	out := []int{0, 1, 2, 3, 4, 5, 6, 7, 8, 9, 35, 36, 37, 48, 59, 60, 100, 120, 300, 99_999, 100_000, 999_999, most}
	r := rand.New(rand.NewSource(4))
	for range 12 {
		out = append(out, r.Intn(most+1), r.Intn(400))
	}
	return out
}

// P4.1

func TestOf(t *testing.T) {
	for _, x := range []struct{ balls, per, over, rest int }{{75, 6, 12, 3}, {0, 6, 0, 0}, {5, 6, 0, 5}, {6, 6, 1, 0}, {7, 1, 7, 0}, {7, 8, 0, 7}, {most, 1, most, 0}, {most, 6, 166_666, 4}, {most, 8, 125_000, 0}} {
		if o, n := overs.Of(x.balls, x.per); o != x.over || n != x.rest {
			t.Errorf("Of(%d, %d) = %d, %d; want %d, %d", x.balls, x.per, o, n, x.over, x.rest)
		}
	}
	for _, per := range wrongPers() {
		if o, n := overs.Of(75, per); o != 0 || n != 0 {
			t.Errorf("Of(75, %d) = %d, %d", per, o, n)
		}
	}
	for _, balls := range wrongCounts() {
		if o, n := overs.Of(balls, 6); o != 0 || n != 0 {
			t.Errorf("Of(%d, 6) = %d, %d", balls, o, n)
		}
	}
}

func TestBalls(t *testing.T) {
	for _, x := range []struct{ over, rest, per, want int }{{12, 3, 6, 75}, {0, 0, 1, 0}, {0, 0, 6, 0}, {0, 5, 6, 5}, {1, 0, 6, 6}, {100_000, 7, 8, 800_007}, {100_000, 0, 1, 100_000}} {
		if n, e := overs.Balls(x.over, x.rest, x.per); n != x.want || e != api.OK {
			t.Errorf("Balls(%d, %d, %d) = %d, %d; want %d", x.over, x.rest, x.per, n, e, x.want)
		}
	}
	refused := [][3]int{{12, 6, 6}, {12, -1, 6}, {-1, 3, 6}, {100_001, 0, 6}, {100_001, 0, 1}, {0, 1, 1}, {0, 8, 8}, {math.MaxInt, 0, 8}, {math.MinInt, 0, 8}, {0, math.MaxInt, 8}, {0, math.MinInt, 8}}
	for _, per := range wrongPers() {
		refused = append(refused, [3]int{12, 0, per})
	}
	for _, x := range refused {
		if n, e := overs.Balls(x[0], x[1], x[2]); n != 0 || e != api.ErrRange {
			t.Errorf("Balls(%d, %d, %d) = %d, %d; want ErrRange", x[0], x[1], x[2], n, e)
		}
	}
}

func TestBallsOfOf(t *testing.T) {
	for per := 1; per <= api.MaxBalls; per++ {
		for _, balls := range someCounts() {
			over, rest := overs.Of(balls, per)
			if over*per+rest != balls || rest < 0 || rest >= per {
				t.Errorf("Of(%d, %d) = %d, %d", balls, per, over, rest)
			}
			n, e := overs.Balls(over, rest, per)
			if over <= 100_000 && (n != balls || e != api.OK) {
				t.Errorf("Balls(%d, %d, %d) = %d, %d; want %d", over, rest, per, n, e, balls)
			}
			if over > 100_000 && (n != 0 || e != api.ErrRange) {
				t.Errorf("Balls(%d, %d, %d) = %d, %d; want ErrRange", over, rest, per, n, e)
			}
		}
	}
}

// P4.2

func TestText(t *testing.T) {
	for _, x := range []struct {
		balls, per int
		want       string
	}{{75, 6, "12.3"}, {0, 6, "0.0"}, {5, 6, "0.5"}, {6, 6, "1.0"}, {4, 4, "1.0"}, {60, 6, "10.0"}, {7, 8, "0.7"}, {7, 1, "7.0"}, {most, 1, "1000000.0"}, {most, 6, "166666.4"}} {
		if s, e := overs.Text(x.balls, x.per); s != x.want || e != api.OK {
			t.Errorf("Text(%d, %d) = %q, %d; want %q", x.balls, x.per, s, e, x.want)
		}
	}
	for _, per := range wrongPers() {
		if s, e := overs.Text(75, per); s != "" || e != api.ErrRange {
			t.Errorf("Text(75, %d) = %q, %d; want ErrRange", per, s, e)
		}
	}
	for _, balls := range wrongCounts() {
		if s, e := overs.Text(balls, 6); s != "" || e != api.ErrRange {
			t.Errorf("Text(%d, 6) = %q, %d; want ErrRange", balls, s, e)
		}
	}
}

func TestParseOfText(t *testing.T) {
	for per := 1; per <= api.MaxBalls; per++ {
		for _, balls := range someCounts() {
			s, e := overs.Text(balls, per)
			if want := strconv.Itoa(balls/per) + "." + strconv.Itoa(balls%per); s != want || e != api.OK {
				t.Errorf("Text(%d, %d) = %q, %d; want %q", balls, per, s, e, want)
			}
			if n, e := overs.Parse(s, per); n != balls || e != api.OK {
				t.Errorf("Parse(%q, %d) = %d, %d; want %d", s, per, n, e, balls)
			}
		}
	}
}

func TestParseRefused(t *testing.T) {
	for _, s := range []string{"", "12", "12.6", "12.9", "012.3", "00.0", "12.", ".3", ".", "12.03", "12.3.", "1.2.3", "-1.0", "-0.0", "1.-1", "0.-0", "+1.0", "1.+1", " 1.0", "1.0 ", "1 .0", "1,0", "1.0\n", "a.0", "1.a", "0x1.0", "1e1.0", "1_0.0", "١.٢", "\x00", "166666.5", "166667.0", "1000000.0", "1000001.0", "9223372036854775807.5", "9223372036854775808.0", "1844674407370955162.0", "3074457345618258603.0", strings.Repeat("9", 10_000) + ".0", "1." + strings.Repeat("9", 10_000)} {
		if n, e := overs.Parse(s, 6); n != 0 || e != api.ErrForm {
			t.Errorf("Parse(%.30q, 6) = %d, %d; want ErrForm", s, n, e)
		}
	}
	for _, x := range []struct {
		s   string
		per int
	}{{"1000000.1", 1}, {"1000001.0", 1}, {"0.1", 1}, {"0.8", 8}, {"125000.1", 8}, {"125001.0", 8}} {
		if n, e := overs.Parse(x.s, x.per); n != 0 || e != api.ErrForm {
			t.Errorf("Parse(%q, %d) = %d, %d; want ErrForm", x.s, x.per, n, e)
		}
	}
}

func TestParseChecksPerFirst(t *testing.T) {
	for _, per := range wrongPers() {
		for _, s := range []string{"12.3", "0.0", "", "x", "-1.0"} {
			if n, e := overs.Parse(s, per); n != 0 || e != api.ErrRange {
				t.Errorf("Parse(%q, %d) = %d, %d; want ErrRange", s, per, n, e)
			}
		}
	}
}

// wrongRates are runs, balls and balls of an over of which one is out of range.
func wrongRates() [][3]int {
	out := [][3]int{{50, 0, 6}, {0, 0, 1}}
	for _, n := range wrongCounts() {
		out = append(out, [3]int{n, 36, 6}, [3]int{50, n, 6})
	}
	for _, per := range wrongPers() {
		out = append(out, [3]int{50, 36, per})
	}
	return out
}

// P4.3

func TestRate(t *testing.T) {
	for _, x := range []struct {
		runs, balls, per int
		want             api.Ratio
	}{{100, 75, 6, api.Ratio{Num: 8, Den: 1}}, {50, 36, 6, api.Ratio{Num: 25, Den: 3}}, {0, 36, 6, api.Ratio{Num: 0, Den: 1}}, {1, 1, 1, api.Ratio{Num: 1, Den: 1}}, {1, most, 1, api.Ratio{Num: 1, Den: most}}, {most, 1, 8, api.Ratio{Num: 8 * most, Den: 1}}, {most, most, 8, api.Ratio{Num: 8, Den: 1}}, {most - 1, most, 7, api.Ratio{Num: 7 * (most - 1), Den: most}}} {
		if r, e := overs.Rate(x.runs, x.balls, x.per); r != x.want || e != api.OK {
			t.Errorf("Rate(%d, %d, %d) = %v, %d; want %v", x.runs, x.balls, x.per, r, e, x.want)
		}
	}
	for _, x := range wrongRates() {
		if r, e := overs.Rate(x[0], x[1], x[2]); r != (api.Ratio{}) || e != api.ErrRange {
			t.Errorf("Rate(%d, %d, %d) = %v, %d; want ErrRange", x[0], x[1], x[2], r, e)
		}
	}
}

// P4.4

func TestCompare(t *testing.T) {
	for _, x := range []struct{ a, b, c, d, want int }{{50, 36, 100, 75, 1}, {100, 75, 50, 36, -1}, {1, 2, 2, 4, 0}, {1, 3, 1, 2, -1}, {0, 1, 0, most, 0}, {0, 1, 1, most, -1}, {most, 1, most, 1, 0}, {most, 1, 1, most, 1}, {1, most, most, 1, -1}, {most, most - 1, most - 1, most - 2, -1}, {most - 1, most, most, most, -1}} {
		if n, e := overs.Compare(x.a, x.b, x.c, x.d); n != x.want || e != api.OK {
			t.Errorf("Compare(%d, %d, %d, %d) = %d, %d; want %d", x.a, x.b, x.c, x.d, n, e, x.want)
		}
	}
	refused := [][4]int{{1, 0, 1, 1}, {1, 1, 1, 0}, {0, 0, 0, 0}}
	for _, n := range wrongCounts() {
		refused = append(refused, [4]int{n, 1, 1, 1}, [4]int{1, n, 1, 1}, [4]int{1, 1, n, 1}, [4]int{1, 1, 1, n})
	}
	for _, x := range refused {
		if n, e := overs.Compare(x[0], x[1], x[2], x[3]); n != 0 || e != api.ErrRange {
			t.Errorf("Compare(%d, %d, %d, %d) = %d, %d; want ErrRange", x[0], x[1], x[2], x[3], n, e)
		}
	}
}

// P4.5

func TestNeeded(t *testing.T) {
	for _, x := range []struct{ runs, balls, per, want int }{{50, 36, 6, 9}, {48, 36, 6, 8}, {49, 36, 6, 9}, {0, 1, 6, 0}, {1, 60, 6, 1}, {10, 60, 6, 1}, {11, 60, 6, 2}, {1, most, 1, 1}, {most, 1, 8, 8 * most}, {most, most, 1, 1}} {
		if n, e := overs.Needed(x.runs, x.balls, x.per); n != x.want || e != api.OK {
			t.Errorf("Needed(%d, %d, %d) = %d, %d; want %d", x.runs, x.balls, x.per, n, e, x.want)
		}
	}
	for _, x := range wrongRates() {
		if n, e := overs.Needed(x[0], x[1], x[2]); n != 0 || e != api.ErrRange {
			t.Errorf("Needed(%d, %d, %d) = %d, %d; want ErrRange", x[0], x[1], x[2], n, e)
		}
	}
}

func TestNeededIsLeast(t *testing.T) {
	for per := 1; per <= api.MaxBalls; per++ {
		for _, runs := range someCounts() {
			for _, balls := range someCounts() {
				if balls == 0 {
					continue
				}
				n, e := overs.Needed(runs, balls, per)
				if e != api.OK || n < 0 || n*balls < runs*per || n > 0 && (n-1)*balls >= runs*per {
					t.Errorf("Needed(%d, %d, %d) = %d, %d", runs, balls, per, n, e)
				}
			}
		}
	}
}
