package camera

import (
	"strings"

	"scorebook/api"
	"scorebook/text"
)

// blank stands between the parts of a line, newline after the last one.
const (
	blank   = " "
	newline = "\n"
)

// Text returns the lines of observations.
func Text(l []api.Seen) (string, api.Errno) {
	if _, e := Check(l); e != api.OK {
		return "", e
	}
	var out strings.Builder
	for _, o := range l {
		out.WriteString(rowOf(o).line())
	}
	return out.String(), api.OK
}

// line returns the line of an observation with these parts.
func (r row) line() string {
	var words [parts]string
	for i, n := range r {
		words[i] = text.Decimal(n)
	}
	return strings.Join(words[:], blank) + newline
}

// Parse returns the observations of lines.
func Parse(s string) ([]api.Seen, api.Errno) {
	var l []api.Seen
	for s != "" {
		line, rest, ended := strings.Cut(s, newline)
		r, ok := parseRow(line)
		if !ended || !ok {
			return nil, api.ErrForm
		}
		l = append(l, r.seen())
		s = rest
	}
	if _, e := Check(l); e != api.OK {
		return nil, api.ErrForm
	}
	return l, api.OK
}

// parseRow returns the parts of an observation from a line without its end, and whether it is one.
func parseRow(line string) (row, bool) {
	words := strings.SplitN(line, blank, parts+1)
	if len(words) != parts {
		return row{}, false
	}
	var r row
	for i, w := range words {
		n, e := text.Number(w, least[i], most[i])
		if e != api.OK {
			return row{}, false
		}
		r[i] = n
	}
	return r, true
}
