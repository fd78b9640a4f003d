package steps_test

import (
	"testing"

	"scorebook/api"
	"scorebook/event"
	"scorebook/match"
	"scorebook/steps"
)

// begin returns a match of one over between sides of 2, before its first innings.
func begin(t *testing.T) api.Match {
	t.Helper()
	m, e := match.Started(api.Rules{Name: "TWO", Side: 2, Innings: 1, Overs: 1, Balls: 4, Wide: 1, NoBall: 1}, 1)
	if e != api.OK {
		t.Fatal(e)
	}
	return m
}

func TestTake(t *testing.T) {
	l, diags := event.ParseLog("OPEN 1 2\nKEEPER 2\nBOWL 1\nBALL 1\nBALL w\nENTER 1\nSTOP\n")
	if len(diags) > 0 {
		t.Fatal(diags)
	}
	for n, want := range []struct {
		refused int
		law     api.Law
	}{{-1, api.Legal}, {-1, api.Legal}, {-1, api.Legal}, {-1, api.Legal}, {-1, api.Legal}, {-1, api.Legal}, {5, api.LawCrease}, {5, api.LawCrease}} {
		m, calls := begin(t), 0
		got, refused, law := steps.Take(begin(t), l[:n], func(i int, before, after api.Match) {
			if i != calls || !match.Same(before, m) {
				t.Fatalf("call %d: index %d, %+v before it", calls, i, before)
			}
			m, _ = match.Step(m, l[i])
			if !match.Same(after, m) {
				t.Fatalf("call %d: %+v after it", calls, after)
			}
			calls++
		})
		if calls != min(n, 5) || !match.Same(got, m) || refused != want.refused || law != want.law {
			t.Errorf("%d events: %d calls, refused %d by law %d, %+v", n, calls, refused, law, got)
		}
	}
}

func TestTakeStopsAtTheLimit(t *testing.T) {
	l := make([]api.Event, api.MaxEvents+2)
	for i := range l {
		l[i] = api.Event{Kind: api.FieldEvent}
	}
	l[0] = api.Event{Kind: api.OpenEvent, Player: 1, Other: 2}
	calls := 0
	_, refused, law := steps.Take(begin(t), l, func(int, api.Match, api.Match) { calls++ })
	if calls != api.MaxEvents || refused != api.MaxEvents || law != api.LawEnded {
		t.Errorf("%d calls, refused %d by law %d", calls, refused, law)
	}
}
