package linear

import (
	"slices"
	"strings"

	"scorebook/api"
	"scorebook/notation"
	"scorebook/text"
)

// MaxNumber is the greatest number in the text of a row.
const MaxNumber = 1_000_000

const (
	lineFields  = 9 // fields of a line
	symbolField = 6 // index of the symbol among them
)

// numbers returns where the numbers of a row are, in the order of their fields in a line.
func numbers(row *api.Row) []*int {
	return []*int{&row.Innings, &row.Over, &row.Ball, &row.Bowler, &row.Striker, &row.Partner, &row.Total, &row.Wickets}
}

// Text returns the text of rows.
func Text(rows []api.Row) (string, api.Errno) {
	var b strings.Builder
	for _, row := range rows {
		line, e := lineOf(row)
		if e != api.OK {
			return "", e
		}
		b.WriteString(line)
		b.WriteByte('\n')
	}
	return b.String(), api.OK
}

// lineOf returns the line of a row.
func lineOf(row api.Row) (string, api.Errno) {
	var fields []string
	for _, n := range numbers(&row) {
		if *n < 0 || *n > MaxNumber {
			return "", api.ErrRange
		}
		fields = append(fields, text.Decimal(int64(*n)))
	}
	if _, e := notation.Parse(row.Symbol); e != api.OK {
		return "", e
	}
	return strings.Join(slices.Insert(fields, symbolField, row.Symbol), " "), api.OK
}

// Parse returns the rows of a text.
func Parse(s string) ([]api.Row, api.Errno) {
	var rows []api.Row
	for line := range strings.Lines(s) {
		row, ok := rowOf(line)
		if !ok {
			return nil, api.ErrForm
		}
		rows = append(rows, row)
	}
	return rows, api.OK
}

// rowOf returns the row of a line with its line feed, and whether there is one.
func rowOf(line string) (api.Row, bool) {
	line, ended := strings.CutSuffix(line, "\n")
	fields := strings.Split(line, " ")
	if !ended || len(fields) != lineFields {
		return api.Row{}, false
	}
	row := api.Row{Symbol: fields[symbolField]}
	if _, e := notation.Parse(row.Symbol); e != api.OK {
		return api.Row{}, false
	}
	fields = slices.Delete(fields, symbolField, symbolField+1)
	for i, to := range numbers(&row) {
		n, e := text.Number(fields[i], 0, MaxNumber)
		if e != api.OK {
			return api.Row{}, false
		}
		*to = int(n)
	}
	return row, true
}
