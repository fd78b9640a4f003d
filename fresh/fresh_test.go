package fresh_test

import (
	"reflect"
	"testing"

	"scorebook/api"
	"scorebook/fresh"
)

// full returns a state in which no field is zero and each list has spare capacity with a mark in it.
func full() api.Innings {
	return api.Innings{
		Side: 1, Target: 2, Overs: 3, Runs: 4, Wickets: 5,
		Extras:   api.Extras{Wides: 6, NoBalls: 7, Byes: 8, LegByes: 9, Penalties: 10},
		Complete: 11, InOver: 12, Striker: 13, Other: 14,
		Batters: []api.Status{api.Batting, api.Hurt, 77}[:2],
		Bowler:  15,
		Bowlers: []int{16, 17, 77}[:2], Before: []int{18, 77}[:1], Fresh: true,
		Bowled: []int{19, 20, 77}[:2], FreeHit: true, BallAge: 21,
		Keeper: 22, Outside: 23, Subs: []bool{true, false, true}[:2],
		Reviews: [2]int{24, 25}, Ending: api.Declared,
	}
}

// overwrite stores another value in each element of each list of a state, those beyond its length included.
func overwrite(in *api.Innings) {
	v := reflect.ValueOf(in).Elem()
	for i := range v.NumField() {
		if f := v.Field(i); f.Kind() == reflect.Slice {
			all := f.Slice(0, f.Cap())
			for j := range all.Len() {
				e := all.Index(j)
				switch e.Kind() {
				case reflect.Bool:
					e.SetBool(!e.Bool())
				case reflect.Int:
					e.SetInt(e.Int() + 1000)
				default:
					e.SetUint(e.Uint() + 100)
				}
			}
		}
	}
}

// sameWithSpare reports whether two states are equal, the spare capacity of their lists included.
func sameWithSpare(a, b api.Innings) bool {
	v, w := reflect.ValueOf(a), reflect.ValueOf(b)
	for i := range v.NumField() {
		f, g := v.Field(i), w.Field(i)
		if f.Kind() == reflect.Slice && !reflect.DeepEqual(f.Slice(0, f.Cap()).Interface(), g.Slice(0, g.Cap()).Interface()) {
			return false
		}
	}
	return reflect.DeepEqual(a, b)
}

func TestFullHasNoZero(t *testing.T) {
	v := reflect.ValueOf(full())
	for i := range v.NumField() {
		if v.Field(i).IsZero() {
			t.Errorf("field %s of the state of the tests is zero", v.Type().Field(i).Name)
		}
	}
}

func TestInnings(t *testing.T) {
	in := full()
	out := fresh.Innings(in)
	if !reflect.DeepEqual(in, out) {
		t.Errorf("the copy is %+v", out)
	}
	overwrite(&out)
	if !sameWithSpare(in, full()) {
		t.Errorf("the copy shares memory with %+v", in)
	}
	if out := fresh.Innings(api.Innings{}); !reflect.DeepEqual(out, api.Innings{}) {
		t.Errorf("the copy of nothing is %+v", out)
	}
}

func TestUnless(t *testing.T) {
	change := func(next *api.Innings) {
		next.Runs = 99
		overwrite(next)
	}
	in := full()
	out, law := fresh.Unless(api.Legal, in, change)
	if law != api.Legal || out.Runs != 99 || out.Bowled[0] != 1019 || !sameWithSpare(in, full()) {
		t.Errorf("a legal change gives %+v, %v", out, law)
	}
	out, law = fresh.Unless(api.LawOver, in, change)
	if law != api.LawOver || !reflect.DeepEqual(out, full()) {
		t.Errorf("a refused change gives %+v, %v", out, law)
	}
	overwrite(&out)
	if !sameWithSpare(in, full()) {
		t.Errorf("a refused state shares memory with %+v", in)
	}
}
