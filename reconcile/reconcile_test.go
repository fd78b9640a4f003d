package reconcile_test

import (
	"cmp"
	"fmt"
	"math"
	"math/rand"
	"regexp"
	"slices"
	"strconv"
	"strings"
	"testing"

	"scorebook/api"
	"scorebook/boxbook"
	"scorebook/delivery"
	"scorebook/dismissal"
	"scorebook/linear"
	"scorebook/notation"
	"scorebook/reconcile"
	"scorebook/rules"
	"scorebook/samples"
)

// forEachLog calls f with the rows and books of random logs of accepted events.
func forEachLog(t *testing.T, seed int64, f func(r api.Rules, rows []api.Row, books []api.Book)) {
	t.Helper()
	s := rand.New(rand.NewSource(seed))
	for range 60 {
		for _, r := range []api.Rules{samples.Limited(), samples.Long()} {
			rows, books := mustWrite(t, r, samples.Play(s.Intn, r, s.Intn(400)))
			f(r, rows, books)
		}
	}
}

// mustWrite returns the rows and books of a log.
func mustWrite(t *testing.T, r api.Rules, l []api.Event) ([]api.Row, []api.Book) {
	t.Helper()
	rows, e := linear.Write(r, l)
	books, f := boxbook.Write(r, l)
	if e != api.OK || f != api.OK {
		t.Fatalf("%+v: Write has the errors %d and %d", l, e, f)
	}
	return rows, books
}

// clone returns copies of books that share no memory.
func clone(books []api.Book) []api.Book {
	books = slices.Clone(books)
	for k := range books {
		b := &books[k]
		b.Boxes, b.Strips = slices.Clone(b.Boxes), slices.Clone(b.Strips)
		for i := range b.Boxes {
			b.Boxes[i].Symbols = slices.Clone(b.Boxes[i].Symbols)
		}
		for i := range b.Strips {
			b.Strips[i].Symbols = slices.Clone(b.Strips[i].Symbols)
		}
	}
	return books
}

// pick returns an element of a list.
func pick[T any](s *rand.Rand, l []T) T { return l[s.Intn(len(l))] }

// What the document says

// mustParse returns the delivery of a row.
func mustParse(row api.Row) api.Delivery {
	d, _ := notation.Parse(row.Symbol)
	return d
}

// box returns the symbol of a row in a box, and strip that in a strip.
func box(r api.Rules, row api.Row) string {
	s, _ := boxbook.BoxSymbol(r, mustParse(row))
	return s
}

func strip(r api.Rules, row api.Row) string {
	s, _ := boxbook.StripSymbol(r, mustParse(row))
	return s
}

// charge returns the number after w or n, or at the beginning, of a symbol of a box.
func charge(symbol string) int {
	n, _ := strconv.Atoi(regexp.MustCompile(`^[wn]?([0-9]*)`).FindStringSubmatch(symbol)[1])
	return n
}

// sumOfRows returns what the document's table has for the linear book.
func sumOfRows(r api.Rules, rows []api.Row, books []api.Book, k, kind, player int) int {
	sum := 0
	if kind == reconcile.TotalKind {
		sum = books[k].Extras.Penalties
	}
	for _, row := range rows {
		if row.Innings != k {
			continue
		}
		d := mustParse(row)
		c := delivery.Credit(r, d)
		flag := map[bool]int{true: 1}
		switch kind {
		case reconcile.TotalKind:
			sum += delivery.Total(c)
		case reconcile.WicketsKind:
			sum += flag[d.How != api.NotOut]
		case reconcile.WidesKind:
			sum += c.Wides
		case reconcile.NoBallsKind:
			sum += c.NoBalls
		case reconcile.ByesKind:
			sum += c.Byes
		case reconcile.LegByesKind:
			sum += c.LegByes
		}
		if row.Striker == player {
			switch kind {
			case reconcile.BatterKind:
				sum += c.Batter
			case reconcile.FacedKind:
				sum += flag[c.Faced]
			}
		}
		if row.Bowler == player {
			switch kind {
			case reconcile.BowlerKind:
				sum += c.Bowler
			case reconcile.BallsKind:
				sum += flag[c.Counts]
			}
		}
	}
	return sum
}

// sumOfBook returns what the document's table has for the box book.
func sumOfBook(b api.Book, kind, player int) int {
	sum := 0
	switch kind {
	case reconcile.TotalKind:
		return b.Total
	case reconcile.WicketsKind:
		for _, x := range b.Strips {
			if x.How != api.NotOut && x.How != api.TimedOut && x.How != api.RetiredOut {
				sum++
			}
		}
	case reconcile.WidesKind:
		return b.Extras.Wides
	case reconcile.NoBallsKind:
		return b.Extras.NoBalls
	case reconcile.ByesKind:
		return b.Extras.Byes
	case reconcile.LegByesKind:
		return b.Extras.LegByes
	case reconcile.BatterKind, reconcile.FacedKind:
		for _, x := range b.Strips {
			for _, s := range x.Symbols {
				n, _ := strconv.Atoi(s)
				if x.Player == player && kind == reconcile.FacedKind {
					sum++
				} else if x.Player == player {
					sum += n
				}
			}
		}
	case reconcile.BowlerKind, reconcile.BallsKind:
		for _, x := range b.Boxes {
			for _, s := range x.Symbols {
				if x.Bowler == player && kind == reconcile.BowlerKind {
					sum += charge(s)
				} else if x.Bowler == player && s[0] != 'w' && s[0] != 'n' {
					sum++
				}
			}
		}
	}
	return sum
}

// compare does what the document says of Compare, for readable books.
func compare(r api.Rules, rows []api.Row, books []api.Book) []api.Difference {
	var l []api.Difference
	for k, b := range books {
		for kind := reconcile.TotalKind; kind <= reconcile.BallsKind; kind++ {
			from, to := 1, r.Side
			if kind < reconcile.BatterKind {
				from, to = 0, 0
			}
			for player := from; player <= to; player++ {
				n, m := sumOfRows(r, rows, books, k, kind, player), sumOfBook(b, kind, player)
				if n != m {
					l = append(l, api.Difference{Innings: k, Kind: kind, Whom: player, Linear: n, Box: m})
				}
			}
		}
	}
	return l
}

// entry is a symbol of a box with its bowler.
type entry struct {
	bowler int
	symbol string
}

// over returns the indices of the rows of an over, and the symbols that the boxes have of it.
func over(rows []api.Row, books []api.Book, innings, number int) ([]int, []entry) {
	var at []int
	for i, row := range rows {
		if row.Innings == innings && row.Over == number {
			at = append(at, i)
		}
	}
	var l []entry
	for _, x := range books[innings].Boxes {
		for _, s := range x.Symbols {
			if x.Over == number {
				l = append(l, entry{x.Bowler, s})
			}
		}
	}
	return at, l
}

// compareBoxes does what the document says of Boxes, for readable books.
func compareBoxes(r api.Rules, rows []api.Row, books []api.Book) ([]int, [][2]int) {
	var overs, whole [][2]int
	for _, row := range rows {
		overs = append(overs, [2]int{row.Innings, row.Over})
	}
	for k, b := range books {
		for _, x := range b.Boxes {
			overs = append(overs, [2]int{k, x.Over})
		}
	}
	slices.SortFunc(overs, func(a, b [2]int) int { return cmp.Or(a[0]-b[0], a[1]-b[1]) })
	wrong := make([]bool, len(rows))
	for _, o := range slices.Compact(overs) {
		at, l := over(rows, books, o[0], o[1])
		if len(at) != len(l) {
			whole = append(whole, o)
			continue
		}
		for place, i := range at {
			wrong[i] = rows[i].Bowler != l[place].bowler || box(r, rows[i]) != l[place].symbol
		}
	}
	return indices(wrong), whole
}

// indices returns the indices of what is set.
func indices(set []bool) []int {
	var l []int
	for i, ok := range set {
		if ok {
			l = append(l, i)
		}
	}
	return l
}

// stripSymbols returns the symbols of the strips of a player, one strip after the other.
func stripSymbols(b api.Book, player int) []string {
	var l []string
	for _, x := range b.Strips {
		if x.Player == player {
			l = append(l, x.Symbols...)
		}
	}
	return l
}

// placeOf returns how many rows before a row have a symbol in the same strip.
func placeOf(r api.Rules, rows []api.Row, i int) int {
	n := 0
	for _, row := range rows[:i] {
		if row.Innings == rows[i].Innings && row.Striker == rows[i].Striker && strip(r, row) != "" {
			n++
		}
	}
	return n
}

// compareStrips does what the document says of Strips, for readable books.
func compareStrips(r api.Rules, rows []api.Row, books []api.Book) []int {
	wrong := make([]bool, len(rows))
	for i, row := range rows {
		s := strip(r, row)
		if s == "" {
			continue
		}
		l, place := stripSymbols(books[row.Innings], row.Striker), placeOf(r, rows, i)
		wrong[i] = place >= len(l) || l[place] != s
	}
	return indices(wrong)
}

// mend does what the document says of Mend, for readable books and an index of a row.
func mend(r api.Rules, rows []api.Row, books []api.Book, i int) []string {
	var symbols []string
	row := rows[i]
	at, l := over(rows, books, row.Innings, row.Over)
	strips, place := stripSymbols(books[row.Innings], row.Striker), placeOf(r, rows, i)
	for _, d := range delivery.All(api.MaxRun) {
		inBox, _ := boxbook.BoxSymbol(r, d)
		inStrip, _ := boxbook.StripSymbol(r, d)
		if len(at) != len(l) || l[slices.Index(at, i)].symbol != inBox {
			continue
		}
		if inStrip == "" || place < len(strips) && strips[place] == inStrip {
			s, _ := notation.Print(d)
			symbols = append(symbols, s)
		}
	}
	return symbols
}

// isBoxSymbol reports whether a string is a symbol of a box, by the deliveries that may have it.
func isBoxSymbol(r api.Rules, symbol string) bool {
	for _, d := range delivery.All(api.MaxRun) {
		for _, how := range []api.How{api.NotOut, api.RunOut, api.HitWicket} {
			if d.How, d.Victim, d.Fielder = how, 1, 0; how == api.NotOut {
				d.Victim = 0
			} else if how == api.RunOut {
				d.Fielder = 1
			}
			if s, e := boxbook.BoxSymbol(r, d); e == api.OK && s == symbol {
				return true
			}
		}
	}
	return false
}

var stripForm = regexp.MustCompile(`^(\.|[1-9]|1[01])$`)

// readable does what the document says of readable books, but for the limits.
func readable(r api.Rules, rows []api.Row, books []api.Book) bool {
	ok := true
	need := func(n, lo, hi int) { ok = ok && lo <= n && n <= hi }
	for _, x := range rows {
		need(x.Innings, 0, len(books)-1)
		need(x.Bowler, 1, r.Side)
		need(x.Striker, 1, r.Side)
		need(x.Partner, 1, r.Side)
		need(x.Over, 0, 1_000_000)
		need(x.Ball, 0, 1_000_000)
		d, e := notation.Parse(x.Symbol)
		ok = ok && e == api.OK && delivery.Legal(d) == api.Legal && dismissal.Possible(d, false) == api.Legal
	}
	for _, b := range books {
		for _, n := range []int{b.Total, b.Wickets, b.Extras.Wides, b.Extras.NoBalls, b.Extras.Byes, b.Extras.LegByes, b.Extras.Penalties} {
			need(n, 0, 1_000_000)
		}
		for _, x := range b.Boxes {
			need(x.Over, 0, 1_000_000)
			need(x.Bowler, 1, r.Side)
			for _, s := range x.Symbols {
				ok = ok && isBoxSymbol(r, s)
			}
		}
		for _, x := range b.Strips {
			need(x.Player, 1, r.Side)
			for _, s := range x.Symbols {
				ok = ok && stripForm.MatchString(s)
			}
		}
	}
	return ok
}

// Wrong entries

// oddNumber returns a number near n, or one that seldom fits.
func oddNumber(s *rand.Rand, n int) int {
	return pick(s, []int{n - 1, n + 1, n + 1, n + 5, 0, 1, 1, 2, 2, 3, 3, 4, 1_000_000, 1_000_001, -1, math.MaxInt, math.MinInt})
}

// spoilRows changes a row, or which rows there are and in what order.
func spoilRows(s *rand.Rand, rows []api.Row) []api.Row {
	if len(rows) == 0 {
		return rows
	}
	i, k := s.Intn(len(rows)), s.Intn(len(rows))
	x := &rows[i]
	switch s.Intn(8) {
	case 0:
		n := pick(s, []*int{&x.Innings, &x.Over, &x.Ball, &x.Bowler, &x.Striker, &x.Partner, &x.Total, &x.Wickets})
		*n = oddNumber(s, *n)
	case 1:
		x.Striker, x.Partner = x.Partner, x.Striker
	case 2:
		return slices.Delete(rows, i, i+1)
	case 3:
		return slices.Insert(rows, k, *x)
	case 4:
		rows[i], rows[k] = rows[k], rows[i]
	case 5:
		x.Symbol = pick(s, []string{"", "x", "1S", "./M1", "1/B1", "wo", "./B2"})
	default:
		x.Symbol = pick(s, samples.Symbols())
	}
	return rows
}

// spoilSymbols changes symbols: one of them, or how many there are.
func spoilSymbols(s *rand.Rand, l []string, others []string) []string {
	if len(l) == 0 || s.Intn(4) == 0 {
		return slices.Insert(l, s.Intn(len(l)+1), pick(s, others))
	}
	i := s.Intn(len(l))
	if s.Intn(3) == 0 {
		return slices.Delete(l, i, i+1)
	}
	l[i] = pick(s, others)
	return l
}

// spoilBook changes a book: its numbers, a box or a strip, or how many there are.
func spoilBook(s *rand.Rand, b *api.Book) {
	e := &b.Extras
	boxes, strips := len(b.Boxes), len(b.Strips)
	switch n := s.Intn(9); {
	case n == 0:
		n := pick(s, []*int{&b.Side, &b.Total, &b.Wickets, &e.Wides, &e.NoBalls, &e.Byes, &e.LegByes, &e.Penalties})
		*n = oddNumber(s, *n)
	case n == 1 && boxes > 0:
		x := &b.Boxes[s.Intn(boxes)]
		n := pick(s, []*int{&x.Over, &x.Bowler})
		*n = oddNumber(s, *n)
	case n == 2 && strips > 0:
		x := &b.Strips[s.Intn(strips)]
		n := pick(s, []*int{&x.Player, &x.Bowler})
		*n = oddNumber(s, *n)
		x.How = api.How(s.Intn(13))
	case n == 3 && boxes > 0:
		i := s.Intn(boxes)
		b.Boxes = slices.Delete(b.Boxes, i, i+1)
	case n == 4 && strips > 0:
		i := s.Intn(strips)
		b.Strips = slices.Delete(b.Strips, i, i+1)
	case n == 5:
		b.Boxes = slices.Insert(b.Boxes, s.Intn(boxes+1), api.Box{Over: s.Intn(4), Bowler: 1 + s.Intn(4), Symbols: slices.Repeat([]string{"."}, s.Intn(3))})
	case n == 6:
		b.Strips = slices.Insert(b.Strips, s.Intn(strips+1), api.Strip{Player: 1 + s.Intn(4), Symbols: slices.Repeat([]string{"1"}, s.Intn(3))})
	case n == 7 && boxes > 0:
		x := &b.Boxes[s.Intn(boxes)]
		x.Symbols = spoilSymbols(s, x.Symbols, []string{".", "1", "4", ".W", ".R", ".b1", ".l2", "w2", "w1", "n3", "n4", "n5R", "w2W", "8R", "n5l1", ".b11", "", "1W"})
	case n == 8 && strips > 0:
		x := &b.Strips[s.Intn(strips)]
		x.Symbols = spoilSymbols(s, x.Symbols, []string{".", "1", "2", "4", "11", "12", "w1"})
	}
}

// forEachChange calls f with rows and books that are those of logs or changed ones.
func forEachChange(t *testing.T, seed int64, f func(r api.Rules, rows []api.Row, books []api.Book)) {
	t.Helper()
	s := rand.New(rand.NewSource(seed))
	forEachLog(t, seed, func(r api.Rules, rows []api.Row, books []api.Book) {
		for range 12 {
			rows, books := slices.Clone(rows), clone(books)
			for range s.Intn(5) {
				if len(books) > 0 && s.Intn(2) == 0 {
					spoilBook(s, &books[s.Intn(len(books))])
				} else {
					rows = spoilRows(s, rows)
				}
			}
			if len(books) > 0 && s.Intn(20) == 0 {
				books = books[:len(books)-1]
			}
			f(r, rows, books)
		}
	})
}

// P22.1

func TestCompare(t *testing.T) {
	met, errors := map[int]int{}, map[api.Errno]int{}
	forEachChange(t, 1, func(r api.Rules, rows []api.Row, books []api.Book) {
		var want []api.Difference
		wantErr := api.ErrForm
		if readable(r, rows, books) {
			want, wantErr = compare(r, rows, books), api.OK
		}
		got, e := reconcile.Compare(r, rows, books)
		if e != wantErr || !slices.Equal(got, want) {
			t.Fatalf("%s, %+v, %+v: %+v, %d, want %+v, %d", r.Name, rows, books, got, e, want, wantErr)
		}
		errors[e]++
		for _, x := range got {
			met[x.Kind]++
		}
		if e == api.OK && len(got) == 0 {
			met[0]++
		}
	})
	for kind := range reconcile.BallsKind + 1 {
		if met[kind] < 20 {
			t.Errorf("the kind %d was met %d times", kind, met[kind])
		}
	}
	if errors[api.OK] < 500 || errors[api.ErrForm] < 100 {
		t.Errorf("met: %v", errors)
	}
}

// P22.2, P22.3

func TestBoxesAndStrips(t *testing.T) {
	met := map[string]int{}
	forEachChange(t, 2, func(r api.Rules, rows []api.Row, books []api.Book) {
		var wrong, strips []int
		var whole [][2]int
		want := api.ErrForm
		if readable(r, rows, books) {
			wrong, whole = compareBoxes(r, rows, books)
			strips, want = compareStrips(r, rows, books), api.OK
		}
		gotWrong, gotWhole, e := reconcile.Boxes(r, rows, books)
		if e != want || !slices.Equal(gotWrong, wrong) || !slices.Equal(gotWhole, whole) {
			t.Fatalf("%s, %+v, %+v: %v, %v, %d, want %v, %v, %d", r.Name, rows, books, gotWrong, gotWhole, e, wrong, whole, want)
		}
		gotStrips, e := reconcile.Strips(r, rows, books)
		if e != want || !slices.Equal(gotStrips, strips) {
			t.Fatalf("%s, %+v, %+v: %v, %d, want %v, %d", r.Name, rows, books, gotStrips, e, strips, want)
		}
		for name, ok := range map[string]bool{
			"refused": e != api.OK, "one row": len(wrong) == 1, "several rows": len(wrong) > 1, "an over": len(whole) == 1, "several overs": len(whole) > 1,
			"all agrees": e == api.OK && len(wrong)+len(whole)+len(strips) == 0, "one in a strip": len(strips) == 1, "several in strips": len(strips) > 1,
			"overs of several innings": len(whole) > 1 && whole[0][0] != whole[len(whole)-1][0], "overs of one innings": len(whole) > 1 && whole[0][0] == whole[1][0],
		} {
			if ok {
				met[name]++
			}
		}
	})
	for name, n := range met {
		if n < 20 {
			t.Errorf("%s: met %d times", name, n)
		}
	}
	if len(met) != 10 {
		t.Errorf("met: %v", met)
	}
}

// P22.4

func TestMend(t *testing.T) {
	s, met, errors := rand.New(rand.NewSource(3)), map[int]int{}, map[api.Errno]int{}
	forEachChange(t, 3, func(r api.Rules, rows []api.Row, books []api.Book) {
		fine := readable(r, rows, books)
		for _, i := range []int{s.Intn(len(rows) + 1), s.Intn(len(rows) + 1), pick(s, []int{0, -1, len(rows), len(rows) + 1, math.MinInt, math.MaxInt})} {
			var want []string
			wantErr := api.ErrForm
			if fine {
				wantErr = api.ErrRange
			}
			if fine && i >= 0 && i < len(rows) {
				want, wantErr = mend(r, rows, books, i), api.OK
			}
			got, e := reconcile.Mend(r, rows, books, i)
			if e != wantErr || !slices.Equal(got, want) {
				t.Fatalf("%s, %+v, %+v, row %d: %q, %d, want %q, %d", r.Name, rows, books, i, got, e, want, wantErr)
			}
			errors[e]++
			if e == api.OK {
				met[len(got)]++
			}
		}
	})
	if met[0] < 100 || met[1] < 100 || met[2] < 10 || errors[api.ErrForm] < 100 || errors[api.ErrRange] < 100 {
		t.Errorf("met: %v, %v", met, errors)
	}
}

// P22.5

func TestBooksOfOneLogAgree(t *testing.T) {
	s, changes := rand.New(rand.NewSource(4)), 0
	forEachLog(t, 4, func(r api.Rules, rows []api.Row, books []api.Book) {
		d, e := reconcile.Compare(r, rows, books)
		wrong, whole, f := reconcile.Boxes(r, rows, books)
		strips, g := reconcile.Strips(r, rows, books)
		if e != api.OK || f != api.OK || g != api.OK || len(d)+len(wrong)+len(whole)+len(strips) != 0 {
			t.Fatalf("%s, %+v, %+v: %+v, %d, %v, %v, %d, %v, %d", r.Name, rows, books, d, e, wrong, whole, f, strips, g)
		}
		for range min(10, len(rows)) {
			i := s.Intn(len(rows))
			right := rows[i].Symbol
			mends, e := reconcile.Mend(r, rows, books, i)
			if plain := mustParse(rows[i]); e != api.OK || plain.How == api.NotOut && plain.Short == 0 && plain.Sector == 0 && !slices.Contains(mends, right) {
				t.Fatalf("%s, %+v, row %d: %q, %d", r.Name, rows, i, mends, e)
			}
			other := rows[i]
			other.Symbol, _ = notation.Print(pick(s, delivery.All(api.MaxRun)))
			if box(r, other) == box(r, rows[i]) {
				continue
			}
			changed := slices.Clone(rows)
			changed[i] = other
			wrong, whole, e := reconcile.Boxes(r, changed, books)
			if e != api.OK || !slices.Equal(wrong, []int{i}) || len(whole) != 0 {
				t.Fatalf("%s, %+v, %s in the place of %s in row %d: %v, %v, %d", r.Name, rows, other.Symbol, right, i, wrong, whole, e)
			}
			changes++
		}
	})
	if changes < 500 {
		t.Errorf("only %d changes", changes)
	}
}

// Examples and edges

func TestExample(t *testing.T) {
	r, l := samples.Example()
	rows, books := mustWrite(t, r, l)
	rows[0].Symbol = "2"
	want := []api.Difference{{Kind: reconcile.TotalKind, Linear: 2, Box: 1}, {Kind: reconcile.BatterKind, Whom: 1, Linear: 2, Box: 1}, {Kind: reconcile.BowlerKind, Whom: 1, Linear: 2, Box: 1}}
	if got, e := reconcile.Compare(r, rows, books); e != api.OK || !slices.Equal(got, want) {
		t.Errorf("Compare: %+v, %d", got, e)
	}
	wrong, whole, e := reconcile.Boxes(r, rows, books)
	if e != api.OK || !slices.Equal(wrong, []int{0}) || len(whole) != 0 {
		t.Errorf("Boxes: %v, %v, %d", wrong, whole, e)
	}
	if wrong, e := reconcile.Strips(r, rows, books); e != api.OK || !slices.Equal(wrong, []int{0}) {
		t.Errorf("Strips: %v, %d", wrong, e)
	}
	if got, e := reconcile.Mend(r, rows, books, 0); e != api.OK || !slices.Equal(got, []string{"1"}) {
		t.Errorf("Mend: %q, %d", got, e)
	}
}

// rules3 returns the rules of the tests below.
func rules3() api.Rules {
	return api.Rules{Name: "THREE", Side: 3, Innings: 1, Overs: 9, Balls: 4, Wide: 1, NoBall: 1}
}

// row returns a row of the first innings with player 2 as the partner.
func row(over, bowler, striker int, symbol string) api.Row {
	return api.Row{Over: over, Bowler: bowler, Striker: striker, Partner: 2, Symbol: symbol}
}

func TestCompareTells(t *testing.T) {
	r := rules3()
	for _, x := range []struct {
		name string
		rows []api.Row
		book api.Book
		want []api.Difference
	}{
		{"nothing", nil, api.Book{}, nil},
		{"penalty runs", nil, api.Book{Total: 5, Extras: api.Extras{Penalties: 5}}, nil},
		{"penalty runs that are missing", nil, api.Book{Total: 5, Extras: api.Extras{Penalties: 7}}, []api.Difference{{Kind: reconcile.TotalKind, Linear: 7, Box: 5}}},
		{"a box book alone", nil, api.Book{
			Total: 1, Wickets: 9, Extras: api.Extras{Wides: 2, NoBalls: 3, Byes: 4, LegByes: 5}, Boxes: []api.Box{{Over: 7, Bowler: 3, Symbols: []string{"1", "w2", "n5", ".b3", ".W"}}},
			Strips: []api.Strip{{Player: 1, Symbols: []string{".", "11"}, How: api.Caught}},
		}, []api.Difference{
			{Kind: reconcile.TotalKind, Box: 1}, {Kind: reconcile.WicketsKind, Box: 1}, {Kind: reconcile.WidesKind, Box: 2}, {Kind: reconcile.NoBallsKind, Box: 3}, {Kind: reconcile.ByesKind, Box: 4}, {Kind: reconcile.LegByesKind, Box: 5},
			{Kind: reconcile.BatterKind, Whom: 1, Box: 11}, {Kind: reconcile.FacedKind, Whom: 1, Box: 2}, {Kind: reconcile.BowlerKind, Whom: 3, Box: 8}, {Kind: reconcile.BallsKind, Whom: 3, Box: 3},
		}},
		{"a linear book alone", []api.Row{row(0, 3, 1, "2"), row(0, 3, 1, "w1"), row(5, 1, 3, "nb2"), row(0, 3, 3, "l3"), row(0, 3, 3, "1/R2(1)"), row(0, 2, 2, "./H1")}, api.Book{}, []api.Difference{
			{Kind: reconcile.TotalKind, Linear: 11}, {Kind: reconcile.WicketsKind, Linear: 2}, {Kind: reconcile.WidesKind, Linear: 2}, {Kind: reconcile.NoBallsKind, Linear: 1}, {Kind: reconcile.ByesKind, Linear: 2}, {Kind: reconcile.LegByesKind, Linear: 3},
			{Kind: reconcile.BatterKind, Whom: 1, Linear: 2}, {Kind: reconcile.BatterKind, Whom: 3, Linear: 1}, {Kind: reconcile.FacedKind, Whom: 1, Linear: 1}, {Kind: reconcile.FacedKind, Whom: 2, Linear: 1}, {Kind: reconcile.FacedKind, Whom: 3, Linear: 3},
			{Kind: reconcile.BowlerKind, Whom: 1, Linear: 1}, {Kind: reconcile.BowlerKind, Whom: 3, Linear: 5}, {Kind: reconcile.BallsKind, Whom: 2, Linear: 1}, {Kind: reconcile.BallsKind, Whom: 3, Linear: 3},
		}},
		{"wickets without a delivery", []api.Row{row(0, 1, 1, ".")}, api.Book{Wickets: 3, Boxes: []api.Box{{Bowler: 1, Symbols: []string{"."}}}, Strips: []api.Strip{
			{Player: 1, Symbols: []string{"."}, How: api.RetiredOut}, {Player: 2, How: api.TimedOut}, {Player: 3, How: api.NotOut},
		}}, nil},
		// The number of wickets of the book, and how a batter is out, are not compared.
		{"ways of being out", []api.Row{row(0, 1, 1, "./B1")}, api.Book{Wickets: 77, Boxes: []api.Box{{Bowler: 1, Symbols: []string{"."}}}, Strips: []api.Strip{{Player: 1, Symbols: []string{"."}}, {Player: 3, How: 99, Bowler: -1}}}, nil},
		{"several strips and boxes", []api.Row{row(0, 1, 1, "1"), row(1, 2, 1, "2"), row(2, 1, 1, "3")}, api.Book{Total: 6,
			Boxes: []api.Box{{Over: 2, Bowler: 1, Symbols: []string{"4"}}, {Over: 0, Bowler: 2, Symbols: []string{"2"}}, {Over: 9, Bowler: 1, Symbols: []string{"."}}}, Strips: []api.Strip{{Player: 1, Symbols: []string{"6"}}, {Player: 1, Symbols: []string{".", "."}}},
		}, nil},
	} {
		books := []api.Book{x.book}
		got, e := reconcile.Compare(r, x.rows, books)
		if e != api.OK || !slices.Equal(got, x.want) {
			t.Errorf("%s: %+v, %d, want %+v", x.name, got, e, x.want)
		}
		if said := compare(r, x.rows, books); !readable(r, x.rows, books) || !slices.Equal(said, x.want) {
			t.Errorf("%s: the document says %+v, want %+v", x.name, said, x.want)
		}
	}
	if got, e := reconcile.Compare(r, nil, nil); e != api.OK || len(got) != 0 {
		t.Errorf("no books: %+v, %d", got, e)
	}
}

func TestKinds(t *testing.T) {
	kinds := []int{reconcile.TotalKind, reconcile.WicketsKind, reconcile.WidesKind, reconcile.NoBallsKind, reconcile.ByesKind, reconcile.LegByesKind, reconcile.BatterKind, reconcile.FacedKind, reconcile.BowlerKind, reconcile.BallsKind}
	if !slices.Equal(kinds, []int{1, 2, 3, 4, 5, 6, 7, 8, 9, 10}) {
		t.Errorf("%v", kinds)
	}
}

// The last player of the greatest side bats and bowls as others do.
func TestCompareOfTheGreatestSide(t *testing.T) {
	r, e := rules.Standard("TEST")
	if e != api.OK {
		t.Fatal(e)
	}
	want := []api.Difference{
		{Kind: reconcile.TotalKind, Linear: 3}, {Kind: reconcile.BatterKind, Whom: 10, Box: 4}, {Kind: reconcile.BatterKind, Whom: 11, Linear: 3, Box: 1}, {Kind: reconcile.FacedKind, Whom: 10, Box: 1}, {Kind: reconcile.FacedKind, Whom: 11, Linear: 1, Box: 2},
		{Kind: reconcile.BowlerKind, Whom: 11, Linear: 3, Box: 5}, {Kind: reconcile.BallsKind, Whom: 11, Linear: 1, Box: 2},
	}
	books := []api.Book{{Boxes: []api.Box{{Bowler: 11, Symbols: []string{"4", "1"}}}, Strips: []api.Strip{{Player: 11, Symbols: []string{"1", "."}}, {Player: 10, Symbols: []string{"4"}}}}}
	rows := []api.Row{row(0, 11, 11, "3")}
	if got, e := reconcile.Compare(r, rows, books); e != api.OK || !slices.Equal(got, want) {
		t.Errorf("%+v, %d", got, e)
	}
	wrong, whole, e := reconcile.Boxes(r, rows, books)
	if strips, f := reconcile.Strips(r, rows, books); e != api.OK || f != api.OK || len(wrong) != 0 || !slices.Equal(whole, [][2]int{{0, 0}}) || !slices.Equal(strips, []int{0}) {
		t.Errorf("%v, %v, %d, %v, %d", wrong, whole, e, strips, f)
	}
}

func TestBoxesTell(t *testing.T) {
	r := rules3()
	book := api.Book{Boxes: []api.Box{
		{Over: 2, Bowler: 1, Symbols: []string{"1", "2"}}, {Over: 0, Bowler: 2, Symbols: []string{"w1"}}, {Over: 2, Bowler: 3, Symbols: []string{".b1"}}, {Over: 1_000_000, Bowler: 1}, {Over: 7, Bowler: 1, Symbols: []string{"."}},
	}}
	for _, x := range []struct {
		name  string
		rows  []api.Row
		wrong []int
		whole [][2]int
	}{
		{"no rows", nil, nil, [][2]int{{0, 0}, {0, 2}, {0, 7}}},
		{"all rows", []api.Row{row(2, 1, 1, "1"), row(7, 1, 1, "."), row(2, 1, 1, "2"), row(0, 2, 3, "w"), row(2, 3, 1, "b1")}, nil, nil},
		{"other symbols", []api.Row{row(2, 1, 1, "1"), row(7, 1, 1, "./B1"), row(2, 1, 1, "3"), row(0, 2, 3, "w1"), row(2, 3, 1, "l1")}, []int{1, 2, 3, 4}, nil},
		{"other bowlers", []api.Row{row(0, 1, 1, "w"), row(7, 1, 1, "."), row(2, 2, 1, "1"), row(2, 1, 1, "2"), row(2, 1, 1, "b1")}, []int{0, 2, 4}, nil},
		{"another order", []api.Row{row(7, 1, 1, "."), row(2, 3, 1, "b1"), row(2, 1, 1, "1"), row(2, 1, 1, "2"), row(0, 2, 1, "w")}, []int{1, 2, 3}, nil},
		{"other deliveries with the same symbols", []api.Row{row(2, 1, 3, "2-1@1"), row(7, 1, 3, "b1-1"), row(2, 1, 3, "3-1"), row(0, 2, 3, "w1-1"), row(2, 3, 3, "b2-1")}, nil, nil},
		{"rows that are missing or left over", []api.Row{row(2, 1, 1, "3"), row(7, 2, 1, "."), row(0, 2, 1, "w"), row(0, 2, 1, "w"), row(3, 1, 1, ".")}, []int{1}, [][2]int{{0, 0}, {0, 2}, {0, 3}}},
		{"an over of an empty box", []api.Row{row(1_000_000, 1, 1, ".")}, nil, [][2]int{{0, 0}, {0, 2}, {0, 7}, {0, 1_000_000}}},
	} {
		books := []api.Book{book}
		wrong, whole, e := reconcile.Boxes(r, x.rows, books)
		if e != api.OK || !slices.Equal(wrong, x.wrong) || !slices.Equal(whole, x.whole) {
			t.Errorf("%s: %v, %v, %d, want %v, %v", x.name, wrong, whole, e, x.wrong, x.whole)
		}
		if wrong, whole := compareBoxes(r, x.rows, books); !readable(r, x.rows, books) || !slices.Equal(wrong, x.wrong) || !slices.Equal(whole, x.whole) {
			t.Errorf("%s: the document says %v, %v", x.name, wrong, whole)
		}
	}
	// The overs of an innings come before those of a later one, whatever their numbers are.
	later := row(1, 1, 1, ".")
	later.Innings = 1
	wrong, whole, e := reconcile.Boxes(r, []api.Row{later, row(5, 1, 1, "."), row(3, 1, 1, ".")}, make([]api.Book, 2))
	if e != api.OK || len(wrong) != 0 || !slices.Equal(whole, [][2]int{{0, 3}, {0, 5}, {1, 1}}) {
		t.Errorf("%v, %v, %d", wrong, whole, e)
	}
}

func TestStripsTell(t *testing.T) {
	r := rules3()
	books := []api.Book{{Strips: []api.Strip{{Player: 1, Symbols: []string{"1", "."}}, {Player: 3, Symbols: []string{"4"}}, {Player: 1, Symbols: []string{"6"}}}}}
	for _, x := range []struct {
		name string
		rows []api.Row
		want []int
	}{
		{"no rows", nil, nil},
		{"all rows", []api.Row{row(0, 1, 1, "1"), row(0, 1, 3, "nF"), row(0, 1, 1, "l1"), row(9, 2, 1, "S")}, nil},
		{"wides have no symbol", []api.Row{row(0, 1, 2, "w"), row(0, 1, 1, "w/H1"), row(0, 1, 1, "1"), row(0, 1, 1, "w1"), row(0, 1, 1, "b2")}, nil},
		{"other runs", []api.Row{row(0, 1, 1, "2"), row(0, 1, 3, "3"), row(0, 1, 1, "n."), row(9, 2, 1, "5")}, []int{0, 1, 3}},
		{"another striker", []api.Row{row(0, 1, 3, "1"), row(0, 1, 3, "F"), row(0, 1, 1, "."), row(0, 1, 1, "S")}, []int{0, 1, 2, 3}},
		{"too many rows", []api.Row{row(0, 1, 2, "."), row(0, 1, 1, "1"), row(0, 1, 1, "./B1"), row(0, 1, 1, "S"), row(0, 1, 1, ".")}, []int{0, 4}},
		{"too few rows", []api.Row{row(0, 1, 1, "1")}, nil},
	} {
		if got, e := reconcile.Strips(r, x.rows, books); e != api.OK || !slices.Equal(got, x.want) {
			t.Errorf("%s: %v, %d, want %v", x.name, got, e, x.want)
		}
		if said := compareStrips(r, x.rows, books); !readable(r, x.rows, books) || !slices.Equal(said, x.want) {
			t.Errorf("%s: the document says %v", x.name, said)
		}
	}
	// The second innings has strips of its own.
	later := row(0, 1, 1, "1")
	later.Innings = 1
	if got, e := reconcile.Strips(r, []api.Row{row(0, 1, 1, "1"), later, row(0, 1, 1, ".")}, append(books, books[0])); e != api.OK || len(got) != 0 {
		t.Errorf("two innings: %v, %d", got, e)
	}
}

func TestMendTells(t *testing.T) {
	r := rules3()
	books := []api.Book{{
		Boxes:  []api.Box{{Bowler: 1, Symbols: []string{"w5", "4", ".", "n5", ".b4", "11", ".W", "n1b2", "1R", "n1"}}, {Over: 1, Bowler: 1, Symbols: []string{"1"}}},
		Strips: []api.Strip{{Player: 1, Symbols: []string{"4", ".", "4", ".", "11", ".", ".", "1", "."}}, {Player: 3, Symbols: []string{"."}}},
	}}
	var rows []api.Row
	for range 10 {
		rows = append(rows, row(0, 2, 1, "."))
	}
	rows[0].Symbol = "w"
	// The symbols come in the order of the deliveries: a boundary before runs that were all run.
	for i, want := range [][]string{{"wF", "w4"}, {"F", "4"}, {"."}, {"nF", "n4"}, {"bF", "b4"}, {"7F"}, nil, {"nb2"}, nil, {"n."}} {
		if got, e := reconcile.Mend(r, rows, books, i); e != api.OK || !slices.Equal(got, want) {
			t.Errorf("row %d: %q, %d, want %q", i, got, e, want)
		}
		if said := mend(r, rows, books, i); !slices.Equal(said, want) {
			t.Errorf("row %d: the document says %q, want %q", i, said, want)
		}
	}
	// The bowler of the row does not matter, but the striker does.
	rows[1].Striker = 3
	if got, e := reconcile.Mend(r, rows, books, 1); e != api.OK || len(got) != 0 {
		t.Errorf("another striker: %q, %d", got, e)
	}
	// An over that does not agree as a whole cannot be mended.
	more := append(slices.Clone(rows), row(1, 1, 3, "."), row(1, 1, 3, "."), row(2, 1, 3, "."))
	for i := 10; i < 13; i++ {
		if got, e := reconcile.Mend(r, more, books, i); e != api.OK || len(got) != 0 {
			t.Errorf("row %d of another over: %q, %d", i, got, e)
		}
	}
	for _, i := range []int{-1, len(rows), math.MinInt, math.MaxInt} {
		if got, e := reconcile.Mend(r, rows, books, i); e != api.ErrRange || len(got) != 0 {
			t.Errorf("row %d: %q, %d", i, got, e)
		}
	}
	if got, e := reconcile.Mend(r, nil, books, 0); e != api.ErrRange || len(got) != 0 {
		t.Errorf("no rows: %q, %d", got, e)
	}
}

// Errors

// expect checks the error of all functions, beside which all results are empty.
func expect(t *testing.T, name string, want api.Errno, r api.Rules, rows []api.Row, books []api.Book, i int) {
	t.Helper()
	d, e := reconcile.Compare(r, rows, books)
	wrong, whole, f := reconcile.Boxes(r, rows, books)
	strips, g := reconcile.Strips(r, rows, books)
	mends, h := reconcile.Mend(r, rows, books, i)
	if e != want || f != want || g != want || h != want {
		t.Errorf("%s: %d, %d, %d, %d, want %d", name, e, f, g, h, want)
	}
	if want != api.OK && len(d)+len(wrong)+len(whole)+len(strips)+len(mends) != 0 {
		t.Errorf("%s: results beside an error: %+v, %v, %v, %v, %q", name, d, wrong, whole, strips, mends)
	}
}

// readableBooks returns rules, rows and books that are readable.
func readableBooks() (api.Rules, []api.Row, []api.Book) {
	rows := []api.Row{row(0, 1, 1, "1"), row(0, 1, 2, "w")}
	return rules3(), rows, []api.Book{{Boxes: []api.Box{{Bowler: 1, Symbols: []string{"1", "w1"}}}, Strips: []api.Strip{{Player: 1, Symbols: []string{"1"}}}}, {}}
}

func TestFormErrors(t *testing.T) {
	fields := func(rows []api.Row, b []api.Book) map[string]*int {
		e := &b[1].Extras
		return map[string]*int{
			"Innings": &rows[1].Innings, "Over": &rows[1].Over, "Ball": &rows[1].Ball, "Bowler": &rows[1].Bowler, "Striker": &rows[1].Striker, "Partner": &rows[1].Partner,
			"Over of a box": &b[0].Boxes[0].Over, "Bowler of a box": &b[0].Boxes[0].Bowler, "Player of a strip": &b[0].Strips[0].Player,
			"Total": &b[1].Total, "Wickets": &b[1].Wickets, "Wides": &e.Wides, "NoBalls": &e.NoBalls, "Byes": &e.Byes, "LegByes": &e.LegByes, "Penalties": &e.Penalties,
			"Side": &b[0].Side, "Total of a row": &rows[0].Total, "Wickets of a row": &rows[0].Wickets, "Bowler of a strip": &b[0].Strips[0].Bowler,
		}
	}
	for name, bounds := range map[string][2]int{
		"Innings": {0, 1}, "Over": {0, 1_000_000}, "Ball": {0, 1_000_000}, "Bowler": {1, 3}, "Striker": {1, 3}, "Partner": {1, 3},
		"Over of a box": {0, 1_000_000}, "Bowler of a box": {1, 3}, "Player of a strip": {1, 3},
		"Total": {0, 1_000_000}, "Wickets": {0, 1_000_000}, "Wides": {0, 1_000_000}, "NoBalls": {0, 1_000_000}, "Byes": {0, 1_000_000}, "LegByes": {0, 1_000_000}, "Penalties": {0, 1_000_000},
		// These do not matter.
		"Side": {math.MinInt, math.MaxInt}, "Total of a row": {math.MinInt, math.MaxInt}, "Wickets of a row": {math.MinInt, math.MaxInt}, "Bowler of a strip": {math.MinInt, math.MaxInt},
	} {
		for _, n := range []int{math.MinInt, -1, 0, 1, 2, 3, 4, 999_999, 1_000_000, 1_000_001, math.MaxInt} {
			r, rows, books := readableBooks()
			*fields(rows, books)[name] = n
			want := api.OK
			if n < bounds[0] || n > bounds[1] {
				want = api.ErrForm
			}
			expect(t, fmt.Sprint(name, " ", n), want, r, rows, books, 0)
			if want != api.OK {
				expect(t, fmt.Sprint(name, " ", n, ", no such row"), want, r, rows, books, -1)
			}
		}
	}
	for symbol, want := range map[string]api.Errno{
		"": api.ErrForm, "x": api.ErrForm, "01": api.ErrForm, "1 ": api.ErrForm, "1S": api.ErrForm, "wo": api.ErrForm, "0": api.ErrForm, "1/B1": api.ErrForm, "./B2": api.ErrForm, "./C1": api.ErrForm, "n./B1": api.ErrForm, "./M1": api.ErrForm, "./N1": api.ErrForm,
		"7F@8": api.OK, "1x/R2(11,10s)": api.OK, "w/S1(9)": api.OK, "n./T1": api.OK,
	} {
		r, rows, books := readableBooks()
		rows[1].Symbol = symbol
		expect(t, "the symbol "+symbol, want, r, rows, books, 0)
	}
	for symbol, want := range map[string]api.Errno{"": api.ErrForm, "w": api.ErrForm, "w0": api.ErrForm, "12": api.ErrForm, "8R": api.ErrForm, "1W": api.ErrForm, "n1W": api.ErrForm, "n2b1": api.ErrForm, ".W": api.OK, "w12": api.OK, "n1l7R": api.OK} {
		r, rows, books := readableBooks()
		books[0].Boxes[0].Symbols[1] = symbol
		expect(t, "the box "+symbol, want, r, rows, books, 0)
	}
	for symbol, want := range map[string]api.Errno{"": api.ErrForm, "0": api.ErrForm, "12": api.ErrForm, "01": api.ErrForm, ".W": api.ErrForm, "w1": api.ErrForm, ".": api.OK, "11": api.OK} {
		r, rows, books := readableBooks()
		books[0].Strips[0].Symbols[0] = symbol
		expect(t, "the strip "+symbol, want, r, rows, books, 0)
	}
	r, rows, books := readableBooks()
	rows[0].Partner = rows[0].Striker
	rows[1].Symbol, rows[1].Over, rows[1].Ball = ".", 77, 99
	books[0].Boxes = append(books[0].Boxes, api.Box{Bowler: 1}, api.Box{Bowler: 1})
	books[0].Strips = append(books[0].Strips, api.Strip{Player: 1, How: 99, Bowler: 99})
	expect(t, "rows and boxes that do not follow from one another", api.OK, r, rows, books, 0)
	expect(t, "rows without books", api.ErrForm, r, rows, nil, 0)
	expect(t, "a row of an innings without a book", api.OK, r, rows, books[:1], 0)
	rows[1].Innings = 1
	expect(t, "a row of an innings without a book", api.ErrForm, r, rows, books[:1], 0)
}

func TestLimits(t *testing.T) {
	const most = api.MaxEvents
	r, rows, books := readableBooks()
	many := slices.Repeat(rows[:1], most)
	balls := slices.Repeat([]string{"1"}, most+1)
	bad := []api.Row{{Innings: -1}}
	expect(t, "as many rows as there may be", api.OK, r, many, books, 0)
	expect(t, "too many rows", api.ErrLimit, r, append(many, bad...), books, 0)
	expect(t, "too many books", api.ErrLimit, r, bad, make([]api.Book, 3), 0)
	r.Innings = 2
	expect(t, "as many books as there may be", api.OK, r, rows, make([]api.Book, 4), 0)
	expect(t, "too many books of two innings", api.ErrLimit, r, rows, make([]api.Book, 5), 0)
	for name, b := range map[string]api.Book{
		"boxes":             {Total: -1, Boxes: make([]api.Box, most+1)},
		"strips":            {Total: -1, Strips: make([]api.Strip, most+1)},
		"symbols of boxes":  {Boxes: []api.Box{{Bowler: 1, Symbols: balls[:most]}, {Bowler: 1, Symbols: balls[:1]}}},
		"symbols of strips": {Strips: []api.Strip{{Player: 1, Symbols: balls}}},
	} {
		expect(t, "too many "+name, api.ErrLimit, r, bad, []api.Book{books[0], b}, 0)
		// The limits hold for all books before the form of one matters.
		expect(t, "too many "+name+" behind a wrong book", api.ErrLimit, r, rows, []api.Book{{Total: -1}, b}, 0)
	}
	full := api.Book{
		Boxes:  append(slices.Repeat([]api.Box{{Bowler: 1}}, most-1), api.Box{Bowler: 1, Symbols: balls[1:]}),
		Strips: append(slices.Repeat([]api.Strip{{Player: 1}}, most-1), api.Strip{Player: 1, Symbols: balls[1:]}),
	}
	wrong, whole, e := reconcile.Boxes(r, many, []api.Book{full, full, full, full})
	strips, f := reconcile.Strips(r, many, []api.Book{full, full, full, full})
	if e != api.OK || f != api.OK || len(wrong)+len(strips) != 0 || !slices.Equal(whole, [][2]int{{1, 0}, {2, 0}, {3, 0}}) {
		t.Errorf("as many of all as there may be: %v, %v, %d, %v, %d", wrong, whole, e, strips, f)
	}
	for want, bad := range samples.Bad() {
		expect(t, "wrong rules", want, bad, rows, books, 0)
		expect(t, "wrong rules and too many rows", want, bad, append(many, many...), books, -1)
		expect(t, "wrong rules and a wrong row", want, bad, make([]api.Row, 1), books, 9)
	}
}

// Arguments stay as they are, and results are new memory.

func TestMemory(t *testing.T) {
	r, l := samples.Example()
	r.Power = append(r.Power, api.Phase{From: 77})[:0]
	rows, books := mustWrite(t, r, l)
	rows = append(rows, api.Row{Symbol: "MARK"})[:len(rows)]
	rows[0].Symbol, rows[3].Symbol = "2", "w"
	for i := range books {
		b := &books[i]
		b.Boxes = append(b.Boxes, api.Box{Over: 77})[:len(b.Boxes)]
		b.Strips = append(b.Strips, api.Strip{Player: 77})[:len(b.Strips)]
		for k := range b.Boxes {
			n := len(b.Boxes[k].Symbols)
			b.Boxes[k].Symbols = append(b.Boxes[k].Symbols, "MARK", "MARK")[:n]
		}
		for k := range b.Strips {
			n := len(b.Strips[k].Symbols)
			b.Strips[k].Symbols = append(b.Strips[k].Symbols, "MARK", "MARK")[:n]
		}
	}
	books = append(books, api.Book{Side: 77})[:len(books)]
	state := func() string {
		s := fmt.Sprint(rows[:len(rows)+1], books[:len(books)+1], r.Power[:1])
		for _, b := range books {
			s += fmt.Sprint(b.Boxes[:len(b.Boxes)+1], b.Strips[:len(b.Strips)+1])
			for _, x := range b.Boxes {
				s += strings.Join(x.Symbols[:len(x.Symbols)+2], " ")
			}
			for _, x := range b.Strips {
				s += strings.Join(x.Symbols[:len(x.Symbols)+2], " ")
			}
		}
		return s
	}
	was := state()
	for range 2 {
		d, e := reconcile.Compare(r, rows, books)
		wrong, whole, f := reconcile.Boxes(r, rows, books)
		strips, g := reconcile.Strips(r, rows, books)
		mends, h := reconcile.Mend(r, rows, books, 0)
		if e != api.OK || f != api.OK || g != api.OK || h != api.OK || len(d) != 9 || !slices.Equal(wrong, []int{0, 3}) || len(whole) != 0 || !slices.Equal(strips, []int{0}) || !slices.Equal(mends, []string{"1"}) {
			t.Fatalf("%+v, %d, %v, %v, %d, %v, %d, %q, %d", d, e, wrong, whole, f, strips, g, mends, h)
		}
		clear(d[:cap(d)])
		clear(wrong[:cap(wrong)])
		clear(strips[:cap(strips)])
		clear(mends[:cap(mends)])
	}
	if now := state(); now != was {
		t.Errorf("the arguments became %s, from %s", now, was)
	}
}
