package samples_test

import (
	"math/rand"
	"slices"
	"testing"

	"scorebook/api"
	"scorebook/delivery"
	"scorebook/log"
	"scorebook/match"
	"scorebook/notation"
	"scorebook/rules"
	"scorebook/samples"
)

func TestRules(t *testing.T) {
	for _, r := range []api.Rules{samples.Limited(), samples.Long(), samples.Big()} {
		if e := rules.Check(r); e != api.OK {
			t.Errorf("%s has the error %d", r.Name, e)
		}
	}
	for want, r := range samples.Bad() {
		if e := rules.Check(r); e != want {
			t.Errorf("%+v has the error %d, want %d", r, e, want)
		}
	}
}

func TestExample(t *testing.T) {
	r, l := samples.Example()
	m, at, _ := log.Replay(r, l)
	if at != -1 || match.Text(m) != "1 1/1 0.2; 2 5/0 0.1; SIDE 2 WON BY 1 WICKETS" {
		t.Errorf("%q, refused %d", match.Text(m), at)
	}
}

func TestLog(t *testing.T) {
	if l := samples.Log("TOSS 1 BAT\nOPEN 1 2\n"); len(l) != 2 || l[1].Other != 2 {
		t.Errorf("%+v", l)
	}
	defer func() {
		if recover() == nil {
			t.Error("a text that is no log is accepted")
		}
	}()
	samples.Log("TOSS 1\n")
}

func TestWides(t *testing.T) {
	for _, n := range []int{4, 5, api.MaxEvents} {
		l := samples.Wides(n)
		if e := log.Check(samples.Long(), l); len(l) != n || e != api.OK {
			t.Errorf("%d events with the error %d, want %d", len(l), e, n)
		}
	}
}

func TestFaulty(t *testing.T) {
	for want, logs := range samples.Faulty() {
		for _, l := range logs {
			if e := log.Check(samples.Long(), l); e != want {
				t.Errorf("%d events with the error %d, want %d", len(l), e, want)
			}
		}
	}
}

func TestSymbols(t *testing.T) {
	for _, s := range samples.Symbols() {
		if d, e := notation.Parse(s); e != api.OK || delivery.Legal(d) != api.Legal {
			t.Errorf("%q is no symbol of a legal delivery", s)
		}
	}
}

func TestPlay(t *testing.T) {
	s, kinds, stages := rand.New(rand.NewSource(1)), map[api.Kind]int{}, map[api.Stage]int{}
	symbols, endings := map[api.Delivery]int{}, map[api.Ending]int{}
	for range 200 {
		for _, r := range []api.Rules{samples.Limited(), samples.Long()} {
			l := samples.Play(s.Intn, r, s.Intn(400)*min(1, s.Intn(9)))
			m, at, law := log.Replay(r, l)
			if at >= 0 {
				t.Fatalf("%+v: the event %d is refused by law %d", l, at, law)
			}
			stages[m.Stage]++
			for _, e := range l {
				kinds[e.Kind]++
				symbols[e.Ball]++
			}
			for _, in := range m.Innings {
				endings[in.Ending]++
			}
		}
	}
	if len(kinds) != 16 || len(stages) < 4 || len(symbols) != len(samples.Symbols())+1 || len(endings) != 6 {
		t.Errorf("met: kinds %v, stages %v, endings %v, %d symbols", kinds, stages, endings, len(symbols))
	}
	again := func() []api.Event { return samples.Play(rand.New(rand.NewSource(5)).Intn, samples.Long(), 100) }
	if !slices.Equal(again(), again()) {
		t.Error("the same choices lead to other logs")
	}
}
