package event_test

import (
	"math/rand"
	"regexp"
	"slices"
	"strconv"
	"strings"
	"testing"

	"scorebook/api"
	"scorebook/event"
	"scorebook/notation"
)

// line writes an event as the document's table says.
func line(e api.Event) string {
	n := strconv.Itoa
	word := func(yes, no string) string {
		if e.Yes {
			return yes
		}
		return no
	}
	switch e.Kind {
	case api.TossEvent:
		return "TOSS " + n(e.Side) + word(" BAT", " FIELD")
	case api.OpenEvent:
		return "OPEN " + n(e.Player) + " " + n(e.Other)
	case api.BowlEvent:
		return "BOWL " + n(e.Player)
	case api.BallEvent:
		s, _ := notation.Print(e.Ball)
		return "BALL " + s
	case api.EnterEvent:
		return word("TIMEOUT ", "ENTER ") + n(e.Player)
	case api.RetireEvent:
		return "RETIRE " + n(e.Player) + word(" HURT", " OUT")
	case api.FieldEvent:
		return "FIELD " + n(e.Runs)
	case api.KeeperEvent:
		return "KEEPER " + n(e.Player)
	case api.SubEvent:
		return "SUB " + n(e.Player) + word(" ON", " OFF")
	case api.NewBallEvent:
		return "NEWBALL"
	case api.DeclareEvent:
		return "DECLARE " + n(e.Side)
	case api.FollowEvent:
		return "FOLLOW " + n(e.Side) + word(" YES", " NO")
	case api.PenaltyEvent:
		return "PENALTY " + n(e.Side) + " " + n(e.Runs)
	case api.ReviewEvent:
		return "REVIEW " + n(e.Side) + word(" KEPT", " LOST")
	case api.ReviseEvent:
		return "REVISE " + n(e.Runs) + " " + n(e.Overs)
	}
	return "STOP"
}

// shape matches the lines of events other than deliveries.
var shape = regexp.MustCompile(strings.ReplaceAll(`^(?:TOSS [12] (?:BAT|FIELD)|OPEN # #|(?:BOWL|ENTER|TIMEOUT|KEEPER) #|RETIRE # (?:HURT|OUT)|FIELD (?:0|#)|SUB # (?:ON|OFF)|NEWBALL|DECLARE [12]|`+
	`FOLLOW [12] (?:YES|NO)|PENALTY [12] [1-9][0-9]?|REVIEW [12] (?:KEPT|LOST)|REVISE (?:0|[1-9][0-9]{0,4}|100000) (?:0|[1-9]|[1-8][0-9]|90)|STOP)$`, "#", "(?:[1-9]|1[01])"))

// isLine reports whether s is the line of an event, without the package.
func isLine(s string) bool {
	if symbol, ok := strings.CutPrefix(s, "BALL "); ok {
		_, e := notation.Parse(symbol)
		return e == api.OK
	}
	return shape.MatchString(s)
}

// symbols are some symbols of deliveries.
var symbols = []string{".", "1", "0x", "F@2", "S", "l2-1", "w", "wb4F", "n0", "nl", "./B1", "./C1(5)@3", "1x/R2(4,7s)", "./M0", "nb7F-7x/Q2(11,10s)@1"}

// randomEvent returns any event that has a line.
func randomEvent(r *rand.Rand) api.Event {
	u := kinds()[r.Intn(16)]
	e := least(u)
	for _, n := range numbers(u) {
		*n.into(&e) = n.in[0] + r.Intn(n.in[1]-n.in[0]+1)
	}
	e.Yes = u.yes && r.Intn(2) == 0
	if u.ball {
		e.Ball, _ = notation.Parse(symbols[r.Intn(len(symbols))])
	}
	return e
}

func randomLog(r *rand.Rand, n int) []api.Event {
	l := make([]api.Event, n)
	for i := range l {
		l[i] = randomEvent(r)
	}
	return l
}

func checkParse(t *testing.T, s string, want api.Event) {
	t.Helper()
	if e, code := event.Parse(s); e != want || code != api.OK {
		t.Errorf("Parse(%q) = %+v, %v; want %+v", s, e, code, want)
	}
}

func checkRefused(t *testing.T, s string) {
	t.Helper()
	if e, code := event.Parse(s); e != (api.Event{}) || code != api.ErrForm {
		t.Errorf("Parse(%q) = %+v, %v; want ErrForm", s, e, code)
	}
}

// P8.2

func TestLines(t *testing.T) {
	for want, e := range map[string]api.Event{
		"TOSS 1 BAT":       {Kind: api.TossEvent, Side: 1, Yes: true},
		"TOSS 2 FIELD":     {Kind: api.TossEvent, Side: 2},
		"OPEN 1 2":         {Kind: api.OpenEvent, Player: 1, Other: 2},
		"OPEN 11 11":       {Kind: api.OpenEvent, Player: 11, Other: 11},
		"BOWL 4":           {Kind: api.BowlEvent, Player: 4},
		"BALL 1F":          {Kind: api.BallEvent, Ball: api.Delivery{Type: api.Fair, Source: api.OffBat, Runs: 1, Boundary: 4}},
		"BALL 1x/R2(4,7s)": {Kind: api.BallEvent, Ball: api.Delivery{Type: api.Fair, Source: api.OffBat, Runs: 1, Crossed: true, How: api.RunOut, Victim: 2, Fielder: 4, Second: 7, Sub: true}},
		"ENTER 3":          {Kind: api.EnterEvent, Player: 3},
		"TIMEOUT 10":       {Kind: api.EnterEvent, Player: 10, Yes: true},
		"RETIRE 5 HURT":    {Kind: api.RetireEvent, Player: 5, Yes: true},
		"RETIRE 5 OUT":     {Kind: api.RetireEvent, Player: 5},
		"FIELD 0":          {Kind: api.FieldEvent},
		"FIELD 11":         {Kind: api.FieldEvent, Runs: 11},
		"KEEPER 3":         {Kind: api.KeeperEvent, Player: 3},
		"SUB 2 ON":         {Kind: api.SubEvent, Player: 2, Yes: true},
		"SUB 2 OFF":        {Kind: api.SubEvent, Player: 2},
		"NEWBALL":          {Kind: api.NewBallEvent},
		"DECLARE 2":        {Kind: api.DeclareEvent, Side: 2},
		"FOLLOW 1 YES":     {Kind: api.FollowEvent, Side: 1, Yes: true},
		"FOLLOW 1 NO":      {Kind: api.FollowEvent, Side: 1},
		"PENALTY 2 5":      {Kind: api.PenaltyEvent, Side: 2, Runs: 5},
		"PENALTY 1 99":     {Kind: api.PenaltyEvent, Side: 1, Runs: 99},
		"REVIEW 1 KEPT":    {Kind: api.ReviewEvent, Side: 1, Yes: true},
		"REVIEW 1 LOST":    {Kind: api.ReviewEvent, Side: 1},
		"REVISE 0 0":       {Kind: api.ReviseEvent},
		"REVISE 100000 90": {Kind: api.ReviseEvent, Runs: 100_000, Overs: 90},
		"STOP":             {Kind: api.StopEvent},
	} {
		if s, code := event.Text(e); s != want || code != api.OK {
			t.Errorf("Text(%+v) = %q, %v; want %q", e, s, code, want)
		}
		checkParse(t, want, e)
	}
}

func TestLinesAreReadBack(t *testing.T) {
	r := rand.New(rand.NewSource(82))
	of := map[string]api.Event{}
	for range 50_000 {
		e := randomEvent(r)
		s, code := event.Text(e)
		if s != line(e) || code != api.OK {
			t.Fatalf("Text(%+v) = %q, %v; want %q", e, s, code, line(e))
		}
		if other, ok := of[s]; ok && other != e {
			t.Fatalf("%q is the line of %+v and of %+v", s, e, other)
		}
		of[s] = e
		checkParse(t, s, e)
	}
}

func TestTextRefuses(t *testing.T) {
	l := []api.Event{{}, {Kind: 17}, {Kind: 255}, {Kind: api.BallEvent}, {Kind: api.BallEvent, Ball: api.Delivery{Type: api.Fair, Runs: 8}}}
	for _, u := range kinds() {
		l = slices.Concat(l, strangers(u, least(u)), outside(u, least(u)))
	}
	for _, e := range l {
		if s, code := event.Text(e); s != "" || code != event.Check(e) || code == api.OK {
			t.Errorf("Text(%+v) = %q, %v; want %v", e, s, code, event.Check(e))
		}
	}
}

func TestParseRefuses(t *testing.T) {
	for _, s := range []string{
		"", " ", "PLAY", "P", "toss 1 BAT", "TOSS", "TOSS ", "TOSS 1", "TOSS 1 ", "TOSS BAT", "TOSS 1 BAT ", " TOSS 1 BAT", "TOSS  1 BAT", "TOSS 1  BAT", "TOSS\t1 BAT", "TOSS 1 BAT\n", "TOSS 0 BAT", "TOSS 3 BAT", "TOSS 1 HURT", "TOSS 1 bat", "TOSS 1 BAT FIELD", "TOSS 1 2 BAT", "TOSS 01 BAT", "TOSS +1 BAT", "TOSS 1BAT",
		"OPEN", "OPEN 1", "OPEN 1 ", "OPEN 0 1", "OPEN 1 0", "OPEN 12 1", "OPEN 1 12", "OPEN 1 2 3", "OPEN 1 x", "OPEN 1,2",
		"BOWL", "BOWL 0", "BOWL 12", "BOWL -1", "BOWL 1 2", "BOWL 1 ", "BOWL x", "BOWL 99999999999999999999",
		"BALL", "BALL ", "BALL 8", "BALL . .", "BALL . ", "BALL  .", "BALL ./B3", "ball .", ".",
		"ENTER", "ENTER 0", "ENTER 12", "ENTER 1 YES", "TIMEOUT", "TIMEOUT 0", "TIMEOUT 12", "ENTER 1 HURT", "TIMEOUT 1 OUT",
		"RETIRE 1", "RETIRE 1 ", "RETIRE 12 HURT", "RETIRE 0 OUT", "RETIRE 1 KEPT", "RETIRE HURT", "RETIRE HURT 1",
		"FIELD", "FIELD -1", "FIELD 12", "FIELD 0 0", "FIELD 00", "FIELD -0", "FIELD x", "FIELD ", "KEEPER", "KEEPER 0", "KEEPER 12",
		"SUB 1", "SUB ON", "SUB 0 ON", "SUB 12 OFF", "SUB 1 YES", "SUB 1 ON OFF", "NEWBALL 1", "NEWBALL ", " NEWBALL", "NEWBALLS",
		"DECLARE", "DECLARE 0", "DECLARE 3", "DECLARE 1 YES", "FOLLOW 1", "FOLLOW 0 YES", "FOLLOW 3 NO", "FOLLOW 1 ON", "FOLLOW YES",
		"PENALTY 1", "PENALTY 1 0", "PENALTY 1 100", "PENALTY 0 5", "PENALTY 3 5", "PENALTY 1 5 5", "PENALTY 1 05", "PENALTY 1 -5",
		"REVIEW 1", "REVIEW 0 KEPT", "REVIEW 3 LOST", "REVIEW 1 OUT", "REVISE", "REVISE 0", "REVISE 0 91", "REVISE 100001 0", "REVISE -1 0", "REVISE 0 -1", "REVISE 0 0 0", "REVISE 00 0",
		"STOP 1", "STOP ", " STOP", "stop", "STOP\n", "STOP ; x", "\"STOP\"", "STOPS", "STOP\x00", "é",
		strings.Repeat(" ", 100_000), "BOWL " + strings.Repeat("9", 100_000), "FIELD " + strings.Repeat("0", 100_000),
	} {
		checkRefused(t, s)
	}
}

func TestParseAcceptsLinesAlone(t *testing.T) {
	r := rand.New(rand.NewSource(83))
	signs := "0123459 ABDEFHKLNORSTUWY.\t-"
	for range 200_000 {
		b := []byte(line(randomEvent(r)))
		for range 1 + r.Intn(2) {
			i := r.Intn(len(b))
			switch r.Intn(3) {
			case 0:
				b[i] = signs[r.Intn(len(signs))]
			case 1:
				b = slices.Insert(b, i, signs[r.Intn(len(signs))])
			case 2:
				b = slices.Delete(b, i, i+1)
			}
			if len(b) == 0 {
				break
			}
		}
		s := string(b)
		if !isLine(s) {
			checkRefused(t, s)
		} else if e, code := event.Parse(s); code != api.OK || line(e) != s {
			t.Errorf("Parse(%q) = %+v, %v", s, e, code)
		}
	}
}

// P8.3

func TestTextLog(t *testing.T) {
	for want, l := range map[string][]api.Event{
		"":                        nil,
		"STOP\n":                  {{Kind: api.StopEvent}},
		"STOP\nSTOP\n":            {{Kind: api.StopEvent}, {Kind: api.StopEvent}},
		"TOSS 2 FIELD\nBALL 1F\n": {{Kind: api.TossEvent, Side: 2}, {Kind: api.BallEvent, Ball: api.Delivery{Type: api.Fair, Source: api.OffBat, Runs: 1, Boundary: 4}}},
	} {
		kept := slices.Clone(l)
		if s, code := event.TextLog(l); s != want || code != api.OK {
			t.Errorf("TextLog(%v) = %q, %v; want %q", l, s, code, want)
		}
		if !slices.Equal(l, kept) {
			t.Error("TextLog changes its argument")
		}
	}
	if s, code := event.TextLog([]api.Event{}); s != "" || code != api.OK {
		t.Errorf("an empty log: %q, %v", s, code)
	}
}

func TestTextLogErrors(t *testing.T) {
	stop, none, side := api.Event{Kind: api.StopEvent}, api.Event{}, api.Event{Kind: api.StopEvent, Side: 1}
	toss, ball := api.Event{Kind: api.TossEvent}, api.Event{Kind: api.BallEvent, Ball: api.Delivery{Type: api.Fair, Runs: 8}}
	for _, x := range []struct {
		l    []api.Event
		want api.Errno
	}{
		{[]api.Event{none}, api.ErrType},
		{[]api.Event{stop, side, none}, api.ErrArg},
		{[]api.Event{stop, stop, toss, side}, api.ErrRange},
		{[]api.Event{stop, none, ball, side}, api.ErrType},
		{[]api.Event{ball, none}, api.ErrRange},
		{slices.Repeat([]api.Event{stop}, 4001), api.ErrLimit},
		{slices.Repeat([]api.Event{none}, 4001), api.ErrLimit},
		{append(slices.Repeat([]api.Event{stop}, 3999), none), api.ErrType},
	} {
		if s, code := event.TextLog(x.l); s != "" || code != x.want {
			t.Errorf("TextLog of %d events = %q, %v; want %v", len(x.l), s, code, x.want)
		}
	}
}

// P8.4

func checkLog(t *testing.T, src string, want []api.Event) {
	t.Helper()
	if l, diags := event.ParseLog(src); !slices.Equal(l, want) || len(diags) != 0 {
		t.Errorf("ParseLog(%q) = %v, %v; want %v", src, l, diags, want)
	}
}

func checkDiags(t *testing.T, src string, want ...api.Diag) {
	t.Helper()
	if l, diags := event.ParseLog(src); len(l) != 0 || !slices.Equal(diags, want) {
		t.Errorf("ParseLog(%.100q) = %v, %v; want %v", src, l, diags, want)
	}
}

func at(line, column int, code api.Errno) api.Diag {
	return api.Diag{Line: line, Column: column, Code: code}
}

func TestParseLog(t *testing.T) {
	toss, stop := api.Event{Kind: api.TossEvent, Side: 1, Yes: true}, api.Event{Kind: api.StopEvent}
	checkLog(t, "", nil)
	checkLog(t, "\n \n; a comment \xff\n", nil)
	checkLog(t, "STOP", []api.Event{stop})
	checkLog(t, "TOSS 1 BAT\nSTOP\n", []api.Event{toss, stop})
	checkLog(t, "\t TOSS \t 1   BAT\t; the toss\n\nSTOP;", []api.Event{toss, stop})
	checkLog(t, "; STOP\nSTOP\nSTOP\n", []api.Event{stop, stop})
}

func TestLogsAreReadBack(t *testing.T) {
	r := rand.New(rand.NewSource(84))
	for _, n := range []int{0, 1, 2, 3, 10, 100, 1000, 3999, 4000} {
		l := randomLog(r, n)
		s, code := event.TextLog(l)
		if code != api.OK {
			t.Fatalf("%d events: %v", n, code)
		}
		checkLog(t, s, l)
	}
	l := slices.Repeat([]api.Event{{Kind: api.BallEvent, Ball: api.Delivery{Type: api.WideBall, Source: api.Byes, Runs: 7, Short: 7, Boundary: 6, Crossed: true,
		How: api.RunOut, Victim: 2, Fielder: 11, Second: 11, Sub: true, Sector: 8}}}, 4000) // the longest text
	s, _ := event.TextLog(l)
	checkLog(t, s, l)
}

func TestParseLogDiagnostics(t *testing.T) {
	checkDiags(t, "TOSS 1 BAT\nPLAY\n", at(2, 1, api.ErrForm))
	checkDiags(t, "PLAY", at(1, 1, api.ErrForm))
	checkDiags(t, "STOP\n\n \t STOP 1\nSTOP\nBALL 8 ; x\n", at(3, 4, api.ErrForm), at(5, 1, api.ErrForm))
	checkDiags(t, "\"STOP\"\n", at(1, 1, api.ErrForm))
	checkDiags(t, " BOWL \"4\"\n", at(1, 2, api.ErrForm))
	checkDiags(t, "TOSS \"1\" BAT\n", at(1, 1, api.ErrForm))
	checkDiags(t, "STOP \"\"", at(1, 1, api.ErrForm))
	checkDiags(t, "\"TOSS 1 BAT\"", at(1, 1, api.ErrForm))
	checkDiags(t, "BALL . .", at(1, 1, api.ErrForm))
}

func TestParseLogOfOtherTexts(t *testing.T) {
	checkDiags(t, "PLAY\nSTOP\"\nSTOP \x00\nPLAY", at(2, 5, api.ErrForm), at(3, 6, api.ErrForm))
	checkDiags(t, "STOP"+strings.Repeat(" ", 997)+"\nPLAY", at(1, 1001, api.ErrLimit))
	checkDiags(t, strings.Repeat("STOP\n", 60_000), at(1, 1, api.ErrLimit))
	checkLog(t, "STOP"+strings.Repeat(" ", 996), []api.Event{{Kind: api.StopEvent}})
}

func TestParseLogLimits(t *testing.T) {
	var fifty []api.Diag
	for i := range 50 {
		fifty = append(fifty, at(i+1, 1, api.ErrForm))
	}
	checkDiags(t, strings.Repeat("PLAY\n", 49), fifty[:49]...)
	checkDiags(t, strings.Repeat("PLAY\n", 50), fifty...)
	checkDiags(t, strings.Repeat("PLAY\n", 51), fifty...)
	checkDiags(t, strings.Repeat("PLAY\n", 5000), fifty...)
	checkDiags(t, strings.Repeat("STOP\n", 4001), at(1, 1, api.ErrLimit))
	checkDiags(t, "\n\n"+strings.Repeat("STOP\n\n", 4001), at(1, 1, api.ErrLimit))
	checkDiags(t, strings.Repeat("STOP\n", 5000)+" PLAY", at(5001, 2, api.ErrForm))
	checkLog(t, strings.Repeat("\nSTOP\n;\n", 4000), slices.Repeat([]api.Event{{Kind: api.StopEvent}}, 4000))
}

func TestParseLogResultsAreNew(t *testing.T) {
	a, _ := event.ParseLog("STOP\nSTOP\n")
	a[0] = api.Event{}
	checkLog(t, "STOP\nSTOP\n", []api.Event{{Kind: api.StopEvent}, {Kind: api.StopEvent}})
}
