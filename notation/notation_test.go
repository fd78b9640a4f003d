package notation_test

import (
	"math"
	"testing"

	"scorebook/api"
	"scorebook/notation"
)

func checkCheck(t *testing.T, d api.Delivery, want api.Errno) {
	t.Helper()
	if e := notation.Check(d); e != want {
		t.Errorf("Check(%+v) = %v, want %v", d, e, want)
	}
}

// change is a change of a delivery.
type change func(d *api.Delivery)

func changed(changes ...change) api.Delivery {
	d := api.Delivery{Type: api.NoBall, Source: api.OffBat, Runs: 3, Short: 1, How: api.RunOut, Victim: 2, Fielder: 4}
	for _, c := range changes {
		c(&d)
	}
	return d
}

func wrongTypes() []change {
	return []change{
		func(d *api.Delivery) { d.Type = 0 },
		func(d *api.Delivery) { d.Type = api.NoBall + 1 },
		func(d *api.Delivery) { d.Type = 255 },
		func(d *api.Delivery) { d.Source = api.LegByes + 1 },
		func(d *api.Delivery) { d.Source = 255 },
		func(d *api.Delivery) { d.How = api.RetiredOut + 1 },
		func(d *api.Delivery) { d.How = 255 },
	}
}

func wrongNumbers() []change {
	var l []change
	wrong := func(into func(d *api.Delivery) *int, numbers ...int) {
		for _, n := range append(numbers, -1, math.MinInt, math.MaxInt) {
			l = append(l, func(d *api.Delivery) { *into(d) = n })
		}
	}
	wrong(func(d *api.Delivery) *int { return &d.Runs }, 8, 0) // one run was short
	wrong(func(d *api.Delivery) *int { return &d.Short }, 4, 7)
	wrong(func(d *api.Delivery) *int { return &d.Boundary }, 1, 2, 3, 5, 7, 8, 10, -4, -6)
	wrong(func(d *api.Delivery) *int { return &d.Victim }, 3)
	wrong(func(d *api.Delivery) *int { return &d.Fielder }, 12)
	wrong(func(d *api.Delivery) *int { return &d.Second }, 12)
	wrong(func(d *api.Delivery) *int { return &d.Sector }, 9)
	return l
}

// P7.1

func TestCheckAccepts(t *testing.T) {
	for _, d := range []api.Delivery{
		{Type: api.Fair},
		{Type: api.WideBall},
		{Type: api.NoBall},
		changed(),
		{Type: api.Fair, Source: api.LegByes, Runs: 7, Short: 7, Boundary: 6, Crossed: true, How: api.RetiredOut, Victim: 2, Fielder: 11, Second: 11, Sub: true, Sector: 8},
		{Type: api.NoBall, Source: api.OffBat, Runs: 7, Boundary: 4, How: api.Bowled},
		{Type: api.Fair, Source: api.NoRuns, Runs: 1},
		{Type: api.WideBall, Source: api.OffBat, How: api.TimedOut, Second: 1},
		{Type: api.WideBall, Source: api.Byes, Victim: 1, Sub: true},
	} {
		checkCheck(t, d, api.OK)
	}
}

func TestCheckRefusesTypes(t *testing.T) {
	for _, c := range wrongTypes() {
		checkCheck(t, changed(c), api.ErrType)
	}
	checkCheck(t, api.Delivery{}, api.ErrType)
}

func TestCheckRefusesNumbers(t *testing.T) {
	for _, c := range wrongNumbers() {
		checkCheck(t, changed(c), api.ErrRange)
	}
	checkCheck(t, api.Delivery{Type: api.Fair, Short: 1}, api.ErrRange)
	checkCheck(t, api.Delivery{Type: api.Fair, Runs: 8, Short: 8}, api.ErrRange)
	checkCheck(t, api.Delivery{Type: api.Fair, Runs: -1, Short: -1}, api.ErrRange)
}

func TestCheckTypesGoFirst(t *testing.T) {
	for _, kind := range wrongTypes() {
		for _, number := range wrongNumbers() {
			checkCheck(t, changed(kind, number), api.ErrType)
		}
	}
}
