package correct_test

import (
	"math"
	"math/rand"
	"slices"
	"testing"

	"scorebook/api"
	"scorebook/correct"
	"scorebook/log"
	"scorebook/match"
	"scorebook/samples"
)

// forEachLog calls f with random logs of accepted events, and with a function that returns events to correct them with.
func forEachLog(seed int64, f func(s *rand.Rand, r api.Rules, l []api.Event, pick func() api.Event)) {
	s := rand.New(rand.NewSource(seed))
	for range 40 {
		for _, r := range []api.Rules{samples.Limited(), samples.Long()} {
			tries := s.Intn(160)
			if s.Intn(10) == 0 {
				tries = s.Intn(4)
			}
			l, others := samples.Play(s.Intn, r, tries), samples.Play(s.Intn, r, 200)
			f(s, r, l, func() api.Event { return randomEvent(s, others) })
		}
	}
}

// randomEvent returns an event of a log, or one that no log has.
func randomEvent(s *rand.Rand, l []api.Event) api.Event {
	if s.Intn(8) == 0 {
		return []api.Event{{}, {Kind: api.BowlEvent, Player: 99}, {Kind: 77}, {Kind: api.PenaltyEvent, Side: 1, Runs: 4}}[s.Intn(4)]
	}
	return l[s.Intn(len(l))]
}

// count counts the names of what holds.
func count(met map[string]int, holds map[string]bool) {
	for name, ok := range holds {
		if ok {
			met[name]++
		}
	}
}

// outcome is what a correction returns.
type outcome struct {
	l     []api.Event
	index int
	law   api.Law
}

func outcomeOf(l []api.Event, index int, law api.Law) outcome { return outcome{l, index, law} }

func (o outcome) same(p outcome) bool {
	return slices.Equal(o.l, p.l) && o.index == p.index && o.law == p.law
}

// correction is one of the three corrections, with the number of events that it takes away and whether it puts one there.
type correction struct {
	name string
	gone int
	puts bool
	call func(r api.Rules, l []api.Event, k int, e api.Event) ([]api.Event, int, api.Law)
}

func corrections() []correction {
	return []correction{
		{"Replace", 1, true, correct.Replace},
		{"Insert", 0, true, correct.Insert},
		{"Remove", 1, false, func(r api.Rules, l []api.Event, k int, _ api.Event) ([]api.Event, int, api.Law) {
			return correct.Remove(r, l, k)
		}},
	}
}

// corrected does what the document says of a correction.
func (c correction) corrected(r api.Rules, l []api.Event, k int, e api.Event) outcome {
	if log.Check(r, l) != api.OK || k < 0 || k > len(l) || c.gone == 1 && k == len(l) {
		return outcome{nil, -1, api.LawPhase}
	}
	var changed []api.Event
	for i := range len(l) + 1 {
		if i == k && c.puts {
			changed = append(changed, e)
		}
		if i < len(l) && (i != k || c.gone == 0) {
			changed = append(changed, l[i])
		}
	}
	if _, at, law := log.Replay(r, changed); law != api.Legal {
		return outcome{nil, at, law}
	}
	return outcome{changed, -1, api.Legal}
}

func TestExamples(t *testing.T) {
	r, l := samples.Example()
	changed, index, law := correct.Replace(r, l, 4, samples.Log("BALL 2\n")[0])
	want := samples.Log("TOSS 1 BAT\nOPEN 1 2\nKEEPER 2\nBOWL 1\nBALL 2\nBALL ./B1\nOPEN 2 1\nKEEPER 1\nBOWL 2\nBALL w\nBALL F\n")
	if !slices.Equal(changed, want) || index != -1 || law != api.Legal {
		t.Fatalf("BALL 2: %+v, %d, %d", changed, index, law)
	}
	m, e := log.At(r, changed, 6)
	if e != api.OK || !slices.Equal(m.Innings[0].Batters, []api.Status{api.Dismissed, api.Batting}) {
		t.Errorf("after BALL 2 and the wicket: %+v, %d", m, e)
	}
	if until, again, e := correct.Extent(r, l, changed); until != 4 || again != 12 || e != api.OK {
		t.Errorf("Extent: %d, %d, %d", until, again, e)
	}
	if got := outcomeOf(correct.Replace(r, l, 4, samples.Log("BALL ./B1\n")[0])); !got.same(outcome{nil, 5, api.LawPhase}) {
		t.Errorf("BALL ./B1: %+v", got)
	}
}

// P23.1

func TestCorrections(t *testing.T) {
	met := map[string]int{}
	forEachLog(1, func(s *rand.Rand, r api.Rules, l []api.Event, pick func() api.Event) {
		for range 30 {
			e := pick()
			k := s.Intn(len(l)+5) - 2
			for _, c := range corrections() {
				want := c.corrected(r, l, k, e)
				if got := outcomeOf(c.call(r, l, k, e)); !got.same(want) {
					t.Fatalf("%s of %d by %+v in %s, %+v: %+v, want %+v", c.name, k, e, r.Name, l, got, want)
				}
				count(met, map[string]bool{
					c.name + " gives a log":        want.law == api.Legal && len(want.l) > 0,
					c.name + " has no such index":  want.index < 0 && want.law != api.Legal,
					c.name + " is refused at once": want.index == k && want.law != api.Legal,
					c.name + " is refused later":   want.index > k && want.law != api.Legal,
				})
			}
		}
	})
	if len(met) != 12 {
		t.Errorf("met: %v", met)
	}
	for name, n := range met {
		if n < 20 {
			t.Errorf("met: %s %d times", name, n)
		}
	}
}

// event returns the event of a line.
func event(line string) api.Event { return samples.Log(line + "\n")[0] }

func TestCorrectionsTell(t *testing.T) {
	r, l := samples.Example()
	replace := func(k int, line string) outcome { return outcomeOf(correct.Replace(r, l, k, event(line))) }
	insert := func(k int, line string) outcome { return outcomeOf(correct.Insert(r, l, k, event(line))) }
	remove := func(k int) outcome { return outcomeOf(correct.Remove(r, l, k)) }
	none := outcome{nil, -1, api.LawPhase}
	accepted := func(l ...api.Event) outcome { return outcome{l, -1, api.Legal} }
	refused := func(index int, law api.Law) outcome { return outcome{nil, index, law} }
	first, last := l[:10:10], l[1:]
	for _, x := range []struct {
		name      string
		got, want outcome
	}{
		{"another last ball", replace(10, "BALL ."), accepted(append(first, event("BALL ."))...)},
		{"another toss", replace(0, "TOSS 2 FIELD"), accepted(append([]api.Event{event("TOSS 2 FIELD")}, last...)...)},
		{"the keeper bowls", replace(3, "BOWL 2"), refused(3, api.LawBowler)},
		{"the match is won before its last ball", replace(9, "BALL S"), refused(10, api.LawEnded)},
		{"a replaced event behind the log", replace(11, "BALL ."), none},
		{"a replaced event before the log", replace(-1, "TOSS 1 BAT"), none},
		{"a replaced event far behind the log", replace(math.MaxInt, "BALL ."), none},
		{"a replaced event far before the log", replace(math.MinInt, "BALL ."), none},
		{"one more ball", insert(9, "BALL ."), accepted(slices.Concat(l[:9], []api.Event{event("BALL .")}, l[9:])...)},
		{"a ball after the end", insert(11, "BALL ."), refused(11, api.LawEnded)},
		{"one more toss", insert(0, "TOSS 1 BAT"), refused(1, api.LawPhase)},
		{"a ball before the innings", insert(1, "BALL ."), refused(1, api.LawPhase)},
		{"the match stops between its innings", insert(6, "STOP"), refused(7, api.LawEnded)},
		{"an inserted event behind the end", insert(12, "BALL ."), none},
		{"an inserted event before the beginning", insert(-1, "TOSS 1 BAT"), none},
		{"an inserted event far behind the end", insert(math.MaxInt, "BALL ."), none},
		{"an inserted event far before the beginning", insert(math.MinInt, "BALL ."), none},
		{"no last ball", remove(10), accepted(first...)},
		{"no toss", remove(0), refused(0, api.LawPhase)},
		{"no keeper", remove(2), refused(3, api.LawKeeper)},
		{"the first innings goes on", remove(5), refused(5, api.LawPhase)},
		{"a removed event behind the log", remove(11), none},
		{"a removed event before the log", remove(-1), none},
		{"a removed event far behind the log", remove(math.MaxInt), none},
		{"a removed event far before the log", remove(math.MinInt), none},
	} {
		if !x.got.same(x.want) {
			t.Errorf("%s: %+v, want %+v", x.name, x.got, x.want)
		}
	}
}

func TestCorrectionsOfShortLogs(t *testing.T) {
	r := samples.Long()
	toss, open := event("TOSS 2 BAT"), event("OPEN 1 2")
	none := outcome{nil, -1, api.LawPhase}
	for _, x := range []struct {
		name      string
		got, want outcome
	}{
		{"the first event", outcomeOf(correct.Insert(r, nil, 0, toss)), outcome{[]api.Event{toss}, -1, api.Legal}},
		{"a wrong first event", outcomeOf(correct.Insert(r, nil, 0, open)), outcome{nil, 0, api.LawPhase}},
		{"behind no event", outcomeOf(correct.Insert(r, nil, 1, toss)), none},
		{"another event in the place of none", outcomeOf(correct.Replace(r, nil, 0, toss)), none},
		{"no event less", outcomeOf(correct.Remove(r, nil, 0)), none},
		{"the only event", outcomeOf(correct.Remove(r, []api.Event{toss}, 0)), outcome{nil, -1, api.Legal}},
		{"another only event", outcomeOf(correct.Replace(r, []api.Event{event("TOSS 1 BAT")}, 0, toss)), outcome{[]api.Event{toss}, -1, api.Legal}},
		{"no event at all", outcomeOf(correct.Replace(r, []api.Event{toss}, 0, api.Event{})), outcome{nil, 0, api.LawPhase}},
	} {
		if !x.got.same(x.want) {
			t.Errorf("%s: %+v, want %+v", x.name, x.got, x.want)
		}
	}
}

func TestCorrectionsOfWrongLogs(t *testing.T) {
	toss, good := event("TOSS 1 BAT"), samples.Log("TOSS 1 BAT\nOPEN 1 2\n")
	for _, c := range corrections() {
		for _, k := range []int{0, 1, 2, api.MaxEvents, -1} {
			for _, logs := range samples.Faulty() {
				for _, l := range logs {
					// Some of these logs would be accepted after the correction.
					if got := outcomeOf(c.call(samples.Long(), l, k, toss)); !got.same(outcome{nil, -1, api.LawPhase}) {
						t.Errorf("%s of %d in %d events: %d, %d", c.name, k, len(l), got.index, got.law)
					}
				}
			}
			for _, r := range samples.Bad() {
				for _, l := range [][]api.Event{good, nil} {
					if got := outcomeOf(c.call(r, l, k, toss)); !got.same(outcome{nil, -1, api.LawPhase}) {
						t.Errorf("%s of %d with the rules %+v: %+v", c.name, k, r, got)
					}
				}
			}
		}
	}
}

func TestCorrectionsOfTheLongestLog(t *testing.T) {
	r, l := samples.Long(), samples.Wides(api.MaxEvents)
	wide, last := event("BALL w"), api.MaxEvents-1
	for _, k := range []int{4, 2000, api.MaxEvents} {
		if got := outcomeOf(correct.Insert(r, l, k, wide)); !got.same(outcome{nil, api.MaxEvents, api.LawEnded}) {
			t.Errorf("one event too many at %d: %d, %d", k, got.index, got.law)
		}
	}
	if got := outcomeOf(correct.Insert(r, l, 5, event("BOWL 2"))); !got.same(outcome{nil, 5, api.LawBowler}) {
		t.Errorf("a refused event, and one too many: %d, %d", got.index, got.law)
	}
	want := append(slices.Clone(l[:last]), event("BALL w3"))
	if got := outcomeOf(correct.Replace(r, l, last, want[last])); !got.same(outcome{want, -1, api.Legal}) {
		t.Errorf("another last event: %d events, %d, %d", len(got.l), got.index, got.law)
	}
	if got := outcomeOf(correct.Remove(r, l, 7)); !got.same(outcome{l[:last], -1, api.Legal}) {
		t.Errorf("one event less: %d events, %d, %d", len(got.l), got.index, got.law)
	}
	if got := outcomeOf(correct.Insert(r, l[:last], 6, wide)); !got.same(outcome{l, -1, api.Legal}) {
		t.Errorf("one event more: %d events, %d, %d", len(got.l), got.index, got.law)
	}
}

// P23.2

func TestSame(t *testing.T) {
	met := map[bool]int{}
	forEachLog(2, func(s *rand.Rand, r api.Rules, l []api.Event, pick func() api.Event) {
		a, _ := log.At(r, l, s.Intn(len(l)+1))
		b, _ := log.At(r, l, s.Intn(len(l)+1))
		if s.Intn(3) == 0 {
			b = match.Clone(a)
		}
		want := match.Same(a, b)
		if got := correct.Same(a, b); got != want {
			t.Fatalf("%+v and %+v: %t", a, b, got)
		}
		met[want]++
	})
	if met[true] < 20 || met[false] < 20 {
		t.Errorf("met: %v", met)
	}
	if !correct.Same(api.Match{}, api.Match{Innings: []api.Innings{}}) || correct.Same(api.Match{}, api.Match{Penalty: [2]int{0, 5}}) {
		t.Error("states that are not valid")
	}
}

// P23.3

// equalStates reports for each n whether the states after n events of two accepted logs are equal.
func equalStates(r api.Rules, a, b []api.Event) []bool {
	var equal []bool
	for n := range len(a) + 1 {
		x, _ := log.At(r, a, n)
		y, _ := log.At(r, b, n)
		equal = append(equal, match.Same(x, y))
	}
	return equal
}

// extent does what the document says of Extent for accepted logs of the same length.
func extent(equal []bool) (int, int) {
	until, again := 0, 0
	for n := range equal {
		if !slices.Contains(equal[:n+1], false) {
			until = n
		}
		if !equal[n] {
			again = n + 1
		}
	}
	return until, again
}

// variant returns two logs of the same length: a log and a corrected one, or a log with an event at two places.
func variant(s *rand.Rand, r api.Rules, l []api.Event, e api.Event) ([]api.Event, []api.Event, bool) {
	if s.Intn(2) == 0 {
		m, _, law := correct.Replace(r, l, s.Intn(len(l)+1), e)
		return l, m, law == api.Legal
	}
	k := s.Intn(len(l) + 1)
	a, _, law := correct.Insert(r, l, k, e)
	b, _, other := correct.Insert(r, l, min(k+s.Intn(4), len(l)), e)
	return a, b, law == api.Legal && other == api.Legal
}

func TestExtent(t *testing.T) {
	met := map[string]int{}
	forEachLog(3, func(s *rand.Rand, r api.Rules, l []api.Event, pick func() api.Event) {
		if len(l) > 60 {
			l = l[:60]
		}
		for range 40 {
			a, b, ok := variant(s, r, l, pick())
			if !ok {
				continue
			}
			equal := equalStates(r, a, b)
			until, again := extent(equal)
			if x, y, e := correct.Extent(r, a, b); x != until || y != again || e != api.OK {
				t.Fatalf("%s, %+v and %+v: %d, %d, %d, want %d, %d", r.Name, a, b, x, y, e, until, again)
			}
			some := until < len(a)
			count(met, map[string]bool{
				"all states are equal":             !some && again == 0,
				"the states at the end differ":     again == len(a)+1,
				"the states are equal again":       some && again <= len(a),
				"one state differs":                some && again == until+2,
				"other logs, all states are equal": !some && !slices.Equal(a, b),
			})
		}
	})
	if len(met) != 5 {
		t.Errorf("met: %v", met)
	}
}

func TestExtentTells(t *testing.T) {
	r := samples.Long()
	const begin = "TOSS 1 BAT\nOPEN 1 2\nKEEPER 3\nBOWL 1\n"
	for _, x := range []struct {
		name         string
		a, b         string
		until, again int
	}{
		{"no event", "", "", 0, 0},
		{"the same log", begin, begin, 4, 0},
		{"another event with the same state", begin, "TOSS 2 FIELD\nOPEN 1 2\nKEEPER 3\nBOWL 1\n", 4, 0},
		{"another first event", "TOSS 1 BAT\n", "TOSS 2 BAT\n", 0, 2},
		{"another last event", begin, "TOSS 1 BAT\nOPEN 1 2\nKEEPER 3\nBOWL 2\n", 3, 5},
		{"another order of two events", begin, "TOSS 1 BAT\nOPEN 1 2\nBOWL 1\nKEEPER 3\n", 2, 4},
		{"a keeper who is replaced", begin + "KEEPER 4\nKEEPER 3\n", begin + "KEEPER 2\nKEEPER 3\n", 4, 6},
		{"two keepers who are replaced", begin + "KEEPER 4\nKEEPER 3\nBALL .\nKEEPER 2\nKEEPER 3\nBALL 1\n", begin + "KEEPER 2\nKEEPER 3\nBALL .\nKEEPER 4\nKEEPER 3\nBALL 1\n", 4, 9},
		{"a keeper and a last ball", begin + "KEEPER 4\nKEEPER 3\nBALL .\n", begin + "KEEPER 2\nKEEPER 3\nBALL 1\n", 4, 8},
		{"runs in another order", begin + "BALL 1\nBALL 3\nBALL .\n", begin + "BALL 3\nBALL 1\nBALL .\n", 4, 6},
	} {
		a, b := samples.Log(x.a), samples.Log(x.b)
		for range 2 {
			if until, again, e := correct.Extent(r, a, b); until != x.until || again != x.again || e != api.OK {
				t.Errorf("%s: %d, %d, %d, want %d, %d", x.name, until, again, e, x.until, x.again)
			}
			a, b = b, a
		}
	}
	l := samples.Wides(api.MaxEvents)
	if until, again, e := correct.Extent(r, l, l); until != api.MaxEvents || again != 0 || e != api.OK {
		t.Errorf("the longest log: %d, %d, %d", until, again, e)
	}
}

func TestExtentErrors(t *testing.T) {
	r, good := samples.Long(), samples.Log("TOSS 1 BAT\nOPEN 1 2\n")
	check := func(name string, r api.Rules, a, b []api.Event, want api.Errno) {
		if until, again, e := correct.Extent(r, a, b); until != 0 || again != 0 || e != want {
			t.Errorf("%s: %d, %d, %d, want %d", name, until, again, e, want)
		}
	}
	check("a shorter second log", r, good, good[:1], api.ErrArg)
	check("a shorter first log", r, nil, good, api.ErrArg)
	for want, logs := range samples.Faulty() {
		for _, l := range logs {
			check("a wrong first log", r, l, good, want)
			check("a wrong second log", r, good, l, want)
			check("two wrong logs", r, l, l, want)
			for other, more := range samples.Faulty() {
				if other != want {
					check("logs with two errors", r, l, more[0], want)
				}
			}
			for bad, wrong := range samples.Bad() {
				check("wrong rules", wrong, l, good, bad)
			}
		}
	}
	for bad, wrong := range samples.Bad() {
		check("wrong rules alone", wrong, nil, nil, bad)
		check("wrong rules and logs of different lengths", wrong, good, nil, bad)
	}
}

// P23.4

func TestNothingBeforeTheCorrectionChanges(t *testing.T) {
	met := map[string]int{}
	forEachLog(4, func(s *rand.Rand, r api.Rules, l []api.Event, pick func() api.Event) {
		for range 8 {
			k, e := s.Intn(len(l)+1), pick()
			for _, c := range corrections() {
				changed, _, law := c.call(r, l, k, e)
				if law != api.Legal {
					continue
				}
				met[c.name]++
				for n := range k + 1 {
					was, _ := log.At(r, l, n)
					is, bad := log.At(r, changed, n)
					if bad != api.OK || !match.Same(was, is) {
						t.Fatalf("%s of %d by %+v in %+v: the state after %d events is %+v", c.name, k, e, l, n, is)
					}
				}
				if until, _, bad := correct.Extent(r, l, changed); bad == api.OK && until < k {
					t.Fatalf("%s of %d by %+v in %+v: Extent begins at %d", c.name, k, e, l, until)
				}
			}
		}
	})
	if len(met) != 3 || met["Replace"] < 20 || met["Insert"] < 20 || met["Remove"] < 20 {
		t.Errorf("met: %v", met)
	}
}

func TestCorrectionsAreTakenBack(t *testing.T) {
	met := map[string]int{}
	forEachLog(5, func(s *rand.Rand, r api.Rules, l []api.Event, pick func() api.Event) {
		for k := range l {
			if got := outcomeOf(correct.Replace(r, l, k, l[k])); !got.same(outcome{l, -1, api.Legal}) {
				t.Fatalf("%+v: the event %d replaced by itself: %+v", l, k, got)
			}
		}
		for range 20 {
			k, e := s.Intn(len(l)+1), pick()
			if changed, _, law := correct.Insert(r, l, k, e); law == api.Legal {
				met["Insert"]++
				if got := outcomeOf(correct.Remove(r, changed, k)); !got.same(outcome{l, -1, api.Legal}) {
					t.Fatalf("%+v with %+v at %d: Remove has %+v", l, e, k, got)
				}
			}
			if changed, _, law := correct.Replace(r, l, k, e); law == api.Legal {
				met["Replace"]++
				if got := outcomeOf(correct.Replace(r, changed, k, l[k])); !got.same(outcome{l, -1, api.Legal}) {
					t.Fatalf("%+v with %+v in the place of %d: Replace has %+v", l, e, k, got)
				}
			}
			if changed, _, law := correct.Remove(r, l, k); law == api.Legal {
				met["Remove"]++
				if got := outcomeOf(correct.Insert(r, changed, k, l[k])); !got.same(outcome{l, -1, api.Legal}) {
					t.Fatalf("%+v without the event %d: Insert has %+v", l, k, got)
				}
			}
		}
	})
	if met["Insert"] < 50 || met["Replace"] < 50 || met["Remove"] < 50 {
		t.Errorf("met: %v", met)
	}
}

func TestEqualStatesLeadToTheSameMatch(t *testing.T) {
	checked := 0
	forEachLog(6, func(s *rand.Rand, r api.Rules, l []api.Event, pick func() api.Event) {
		for range 20 {
			a, b, ok := variant(s, r, l, pick())
			if !ok {
				continue
			}
			_, again, e := correct.Extent(r, a, b)
			if e != api.OK {
				t.Fatalf("%+v and %+v: the error %d", a, b, e)
			}
			x, _, _ := log.Replay(r, a)
			y, _, _ := log.Replay(r, b)
			if (again <= len(a)) != match.Same(x, y) {
				t.Fatalf("%+v and %+v: equal from %d on, and end in %+v and %+v", a, b, again, x, y)
			}
			if again > 0 && again <= len(a) {
				checked++
			}
		}
	})
	if checked < 20 {
		t.Errorf("only %d logs that differ and lead to the same match", checked)
	}
}

// Arguments stay as they are, and results are new memory.

func TestMemory(t *testing.T) {
	r := samples.Limited()
	r.Power = append(r.Power, api.Phase{From: 77})[:1]
	mark := api.Event{Kind: api.BallEvent, Side: 77}
	l := append(samples.Log("TOSS 1 BAT\nOPEN 1 2\nKEEPER 3\nBOWL 1\nBALL 1\nBALL w\n"), mark, mark)
	marks := slices.Clone(l)
	short := l[:6]
	for range 2 {
		for _, k := range []int{5, 6} {
			for _, c := range corrections() {
				changed, _, law := c.call(r, short, k, event("BALL ."))
				if want := c.corrected(r, short, k, event("BALL .")); law != want.law || !slices.Equal(changed, want.l) {
					t.Fatalf("%s of %d: %+v, %d", c.name, k, changed, law)
				}
				clear(changed[:cap(changed)])
			}
		}
		if until, again, e := correct.Extent(r, short, short); until != 6 || again != 0 || e != api.OK {
			t.Fatalf("Extent: %d, %d, %d", until, again, e)
		}
	}
	power := append(samples.Limited().Power, api.Phase{From: 77})
	if !slices.Equal(l, marks) || !slices.Equal(r.Power[:2], power) {
		t.Errorf("the arguments became %+v and %+v", l, r.Power[:2])
	}
}
