package rules_test

import (
	"math/rand"
	"slices"
	"strings"
	"testing"

	"scorebook/api"
	"scorebook/rules"
)

const limitedText = `RULES LIMITED
SIDE 5
INNINGS 1
OVERS 20
BALLS 6
QUOTA 4
RUNS 1 2
FREEHIT YES
NEWBALL 0
FOLLOWON 0
REVIEWS 1
OUTSIDE 4
POWER 1 4 2
POWER 7 7 0
POWER 15 20 3
`

const testText = `RULES TEST
SIDE 11
INNINGS 2
OVERS 0
BALLS 6
QUOTA 0
RUNS 1 1
FREEHIT NO
NEWBALL 80
FOLLOWON 200
REVIEWS 3
OUTSIDE 9
`

// P5.4

func TestText(t *testing.T) {
	if s, e := rules.Text(limited()); s != limitedText || e != api.OK {
		t.Errorf("%q, %v", s, e)
	}
	r, _ := rules.Standard("TEST")
	if s, e := rules.Text(r); s != testText || e != api.OK {
		t.Errorf("%q, %v", s, e)
	}
	r = api.Rules{Name: "ALL", Side: 2, Innings: 2, Overs: 3, Balls: 4, Quota: 5, Wide: 2, NoBall: 3, NewBall: 6, FollowOn: 7, Reviews: 8, Outside: 9}
	want := "RULES ALL\nSIDE 2\nINNINGS 2\nOVERS 3\nBALLS 4\nQUOTA 5\nRUNS 2 3\nFREEHIT NO\nNEWBALL 6\nFOLLOWON 7\nREVIEWS 8\nOUTSIDE 9\n"
	if s, e := rules.Text(r); s != want || e != api.OK {
		t.Errorf("%q, %v", s, e)
	}
}

func TestTextChangesNothing(t *testing.T) {
	r := limited()
	rules.Text(r)
	rules.Check(r)
	rules.Allowed(r, 3)
	if !equal(r, limited()) {
		t.Errorf("%v", r)
	}
}

// P5.5

func checkParse(t *testing.T, src string, want api.Rules) {
	t.Helper()
	r, d := rules.Parse(src)
	if !equal(r, want) || len(d) != 0 {
		t.Errorf("Parse(%q) = %v, %v, want %v", src, r, d, want)
	}
}

func checkRefused(t *testing.T, src string, want ...api.Diag) {
	t.Helper()
	r, d := rules.Parse(src)
	if !equal(r, api.Rules{}) || !slices.Equal(d, want) {
		t.Errorf("Parse(%q) = %v, %v, want %v", src, r, d, want)
	}
}

func at(line, column int, e api.Errno) api.Diag {
	return api.Diag{Line: line, Column: column, Code: e}
}

func TestParse(t *testing.T) {
	checkParse(t, limitedText, limited())
	r, _ := rules.Standard("TEST")
	checkParse(t, testText, r)
	checkParse(t, strings.TrimSuffix(testText, "\n"), r)
	loose := "; rules\n\n" + strings.ReplaceAll(strings.ReplaceAll(testText, " ", "\t  "), "\n", " ; end\n\n") + "; end"
	checkParse(t, loose, r)
}

func TestParseWithSplitDiagnostics(t *testing.T) {
	checkRefused(t, "\"\nRULES one\nA\"\n", at(1, 2, api.ErrForm), at(3, 2, api.ErrForm))
	checkRefused(t, limitedText+"\x80\n\n\x01", at(16, 1, api.ErrForm), at(18, 1, api.ErrForm))
	checkRefused(t, strings.Repeat(" ", api.MaxText+1), at(1, 1, api.ErrLimit))
	_, d := rules.Parse(strings.Repeat("\"\n", 60))
	if len(d) != api.MaxDiags {
		t.Errorf("%d diagnostics", len(d))
	}
}

func TestParseWithoutLines(t *testing.T) {
	for _, src := range []string{"", "\n\n", "; RULES\n ; x", strings.Repeat(" \n", 100)} {
		checkRefused(t, src, at(1, 1, api.ErrForm))
	}
}

func TestParseMissingLines(t *testing.T) {
	lines := strings.SplitAfter(testText, "\n")
	for n := 1; n < 12; n++ {
		some := strings.Join(lines[:n], "")
		checkRefused(t, some, at(n+1, 1, api.ErrForm))
		checkRefused(t, "\n\n"+some+"\n; end\n\n", at(n+3, 1, api.ErrForm))
		// A line that is left out is not what the next keyword is compared with.
		if n > 1 {
			checkRefused(t, strings.Join(lines[1:n], ""), at(1, 1, api.ErrForm))
		}
	}
	// What is wrong with a line comes before what is missing, and before the rules.
	checkRefused(t, "RULES A\nSIDE 0\nINNINGS x\n", at(3, 9, api.ErrForm))
	checkRefused(t, "RULES A\nSIDE 0\nINNINGS 0\n", at(4, 1, api.ErrForm))
}

func TestParseLines(t *testing.T) {
	replaced := func(before, after string) string { return strings.Replace(limitedText, before, after, 1) }
	for _, x := range []struct {
		src  string
		want api.Diag
	}{
		{replaced("RULES", "RULE"), at(1, 1, api.ErrForm)},
		{replaced("RULES", "\"RULES\""), at(1, 1, api.ErrForm)},
		{replaced("RULES", "  rules"), at(1, 3, api.ErrForm)},
		{replaced(" LIMITED", ""), at(1, 0, api.ErrForm)},
		{replaced("LIMITED", "limited"), at(1, 7, api.ErrName)},
		{replaced("LIMITED", "\"LIMITED\""), at(1, 7, api.ErrForm)},
		{replaced("LIMITED", "LIMITED 1"), at(1, 15, api.ErrForm)},
		{replaced("SIDE", "INNINGS"), at(2, 1, api.ErrForm)},
		{replaced("SIDE 5", "SIDE -1"), at(2, 6, api.ErrRange)},
		{replaced("SIDE 5", "SIDE 10001"), at(2, 6, api.ErrRange)},
		{replaced("SIDE 5", "SIDE 10000"), at(1, 1, api.ErrRange)},
		{replaced("SIDE 5", "SIDE 05"), at(2, 6, api.ErrForm)},
		{replaced("SIDE 5", "SIDE 99999999999999999999"), at(2, 6, api.ErrRange)},
		{replaced("SIDE 5", "SIDE"), at(2, 0, api.ErrForm)},
		{replaced("SIDE 5", "SIDE 5 5"), at(2, 8, api.ErrForm)},
		{replaced("INNINGS 1", "INNINGS"), at(3, 0, api.ErrForm)},
		{replaced("OVERS 20", "OVERS x"), at(4, 7, api.ErrForm)},
		{replaced("BALLS 6", "BALL 6"), at(5, 1, api.ErrForm)},
		{replaced("QUOTA 4", "QUOTAS 4"), at(6, 1, api.ErrForm)},
		{replaced("RUNS 1 2", "RUNS 1"), at(7, 0, api.ErrForm)},
		{replaced("RUNS 1 2", "RUNS 1 x"), at(7, 8, api.ErrForm)},
		{replaced("RUNS 1 2", "RUNS 1 2 3"), at(7, 10, api.ErrForm)},
		{replaced("YES", "yes"), at(8, 9, api.ErrForm)},
		{replaced("YES", "\"YES\""), at(8, 9, api.ErrForm)},
		{replaced(" YES", ""), at(8, 0, api.ErrForm)},
		{replaced("YES", "YES NO"), at(8, 13, api.ErrForm)},
		{replaced("FREEHIT", "FREE"), at(8, 1, api.ErrForm)},
		{replaced("NEWBALL 0", "NEWBALL NO"), at(9, 9, api.ErrForm)},
		{replaced("FOLLOWON 0", "FOLLOWON"), at(10, 0, api.ErrForm)},
		{replaced("REVIEWS 1", "POWER 1"), at(11, 1, api.ErrForm)},
		{replaced("OUTSIDE 4", "OUT 4"), at(12, 1, api.ErrForm)},
		{replaced("POWER 1 4 2", "POWERS 1 4 2"), at(13, 1, api.ErrForm)},
		{replaced("POWER 1 4 2", "POWER 1 4"), at(13, 0, api.ErrForm)},
		{replaced("POWER 7 7 0", "POWER 7 7 0 0"), at(14, 13, api.ErrForm)},
		{replaced("POWER 7 7 0", "POWER 7 7 -1"), at(14, 11, api.ErrRange)},
		{replaced("POWER 7 7 0", "POWER 7 10001 x"), at(14, 9, api.ErrRange)},
		{limitedText + "\nRULES LIMITED\n", at(17, 1, api.ErrForm)},
	} {
		checkRefused(t, x.src, x.want)
	}
}

func TestParseChecks(t *testing.T) {
	replaced := func(before, after string) string { return strings.Replace(limitedText, before, after, 1) }
	for _, x := range []struct {
		src  string
		want api.Errno
	}{
		{replaced("SIDE 5", "SIDE 12"), api.ErrRange},
		{replaced("FOLLOWON 0", "FOLLOWON 9"), api.ErrArg},
		{replaced("QUOTA 4", "QUOTA 3"), api.ErrConflict},
		{replaced("7 7 0", "4 7 0"), api.ErrOrder},
		{replaced("7 7 0", "8 7 0"), api.ErrRange},
		{limitedText + strings.Repeat("POWER 1 1 1\n", 6), api.ErrLimit},
	} {
		checkRefused(t, x.src, at(1, 1, x.want))
		checkRefused(t, "\n"+x.src, at(1, 1, x.want))
	}
}

func randomRules(r *rand.Rand) api.Rules {
	x := api.Rules{
		Name: []string{"A", "NIGHT-5", "B_2"}[r.Intn(3)], Side: 2 + r.Intn(10), Innings: 1 + r.Intn(2), Overs: r.Intn(91), Balls: 4 + r.Intn(5),
		Wide: 1 + r.Intn(5), NoBall: 1 + r.Intn(5), FreeHit: r.Intn(2) == 0, NewBall: r.Intn(201), Reviews: r.Intn(10), Outside: r.Intn(12),
	}
	if x.Innings == 2 {
		x.FollowOn = r.Intn(1001)
	}
	if x.Overs > 0 && r.Intn(2) == 0 {
		least := (x.Overs + x.Side - 1) / x.Side
		x.Quota = least + r.Intn(91-least)
	}
	for from := 1 + r.Intn(20); from <= x.Overs && len(x.Power) < 8; {
		to := min(x.Overs, from+r.Intn(10))
		x.Power = append(x.Power, api.Phase{From: from, To: to, Outside: r.Intn(12)})
		from = to + 1 + r.Intn(10)
	}
	return x
}

func TestTextIsReadBack(t *testing.T) {
	r := rand.New(rand.NewSource(5))
	for range 3000 {
		x := randomRules(r)
		s, e := rules.Text(x)
		if e != api.OK {
			t.Fatalf("Text(%v): %v", x, e)
		}
		checkParse(t, s, x)
	}
}

// A text in which something is changed is refused with one diagnostic, or its rules have a text that is read as the same rules.
func TestParseOfChangedTexts(t *testing.T) {
	r := rand.New(rand.NewSource(55))
	parts := []string{"RULES", "SIDE", "POWER", "NO", "YES", "1", "0", "7", "20", "10000", "-1", "x", "\"", ";", "\n", " "}
	accepted := 0
	for range 20000 {
		s, _ := rules.Text(randomRules(r))
		from := r.Intn(len(s))
		to := min(len(s), from+r.Intn(3))
		s = s[:from] + parts[r.Intn(len(parts))] + s[to:]
		x, d := rules.Parse(s)
		if len(d) > 0 {
			if len(d) != 1 || d[0].Code == api.OK || !equal(x, api.Rules{}) {
				t.Fatalf("Parse(%q) = %v, %v", s, x, d)
			}
			continue
		}
		accepted++
		again, e := rules.Text(x)
		if e != api.OK {
			t.Fatalf("Text of Parse(%q): %v", s, e)
		}
		checkParse(t, again, x)
	}
	if accepted < 500 {
		t.Errorf("only %d texts were accepted", accepted)
	}
}
