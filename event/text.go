package event

import (
	"strings"

	"scorebook/api"
	"scorebook/notation"
	"scorebook/text"
)

// form has the first word of the lines of some events, and the last one, which is empty if the line ends with a number or a symbol.
type form struct {
	kind        api.Kind
	yes         bool
	first, last string
}

// forms has the forms of all lines. A kind uses Yes if it has a form with yes.
var forms = [...]form{
	{api.TossEvent, true, "TOSS", "BAT"},
	{api.TossEvent, false, "TOSS", "FIELD"},
	{api.OpenEvent, false, "OPEN", ""},
	{api.BowlEvent, false, "BOWL", ""},
	{api.BallEvent, false, "BALL", ""},
	{api.EnterEvent, false, "ENTER", ""},
	{api.EnterEvent, true, "TIMEOUT", ""},
	{api.RetireEvent, true, "RETIRE", "HURT"},
	{api.RetireEvent, false, "RETIRE", "OUT"},
	{api.FieldEvent, false, "FIELD", ""},
	{api.KeeperEvent, false, "KEEPER", ""},
	{api.SubEvent, true, "SUB", "ON"},
	{api.SubEvent, false, "SUB", "OFF"},
	{api.NewBallEvent, false, "NEWBALL", ""},
	{api.DeclareEvent, false, "DECLARE", ""},
	{api.FollowEvent, true, "FOLLOW", "YES"},
	{api.FollowEvent, false, "FOLLOW", "NO"},
	{api.PenaltyEvent, false, "PENALTY", ""},
	{api.ReviewEvent, true, "REVIEW", "KEPT"},
	{api.ReviewEvent, false, "REVIEW", "LOST"},
	{api.ReviseEvent, false, "REVISE", ""},
	{api.StopEvent, false, "STOP", ""},
}

// formOf returns the form of the lines of a kind with an answer.
func formOf(k api.Kind, yes bool) (form, bool) {
	for _, f := range forms {
		if f.kind == k && f.yes == yes {
			return f, true
		}
	}
	return form{}, false
}

// Text returns the line of an event.
func Text(e api.Event) (string, api.Errno) {
	if code := Check(e); code != api.OK {
		return "", code
	}
	f, _ := formOf(e.Kind, e.Yes)
	fields := []string{f.first}
	for _, n := range numbers(&e) {
		fields = append(fields, text.Decimal(int64(*n.at)))
	}
	if e.Kind == api.BallEvent {
		symbol, _ := notation.Print(e.Ball)
		fields = append(fields, symbol)
	}
	if f.last != "" {
		fields = append(fields, f.last)
	}
	return strings.Join(fields, " "), api.OK
}

// Parse returns the event of a line.
func Parse(s string) (api.Event, api.Errno) {
	e := read(strings.Split(s, " "))
	// What is read need not be all of s, or may be written in another way: Text decides.
	if line, code := Text(e); code != api.OK || line != s {
		return api.Event{}, api.ErrForm
	}
	return e, api.OK
}

// read returns the event of a line with these fields, and some event if there is none.
func read(fields []string) api.Event {
	var e api.Event
	for _, f := range forms {
		if f.first == fields[0] && (f.last == "" || f.last == fields[len(fields)-1]) {
			e = api.Event{Kind: f.kind, Yes: f.yes}
		}
	}
	rest := fields[1:]
	for i, n := range numbers(&e) {
		if i < len(rest) {
			value, _ := text.Number(rest[i], int64(n.lo), int64(n.hi))
			*n.at = int(value)
		}
	}
	if e.Kind == api.BallEvent && len(rest) > 0 {
		e.Ball, _ = notation.Parse(rest[0])
	}
	return e
}

// TextLog returns the text of a log.
func TextLog(l []api.Event) (string, api.Errno) {
	if len(l) > api.MaxEvents {
		return "", api.ErrLimit
	}
	var b strings.Builder
	for _, e := range l {
		line, code := Text(e)
		if code != api.OK {
			return "", code
		}
		b.WriteString(line)
		b.WriteByte('\n')
	}
	return b.String(), api.OK
}

// ParseLog returns the log of a text, or its diagnostics.
func ParseLog(src string) ([]api.Event, []api.Diag) {
	lines, diags := text.Split(src)
	if len(diags) > 0 {
		return nil, diags
	}
	var log []api.Event
	for _, l := range lines {
		e, code := parseLine(l)
		if code == api.OK {
			log = append(log, e)
			continue
		}
		diags = append(diags, api.Diag{Line: l.Number, Column: l.Fields[0].Column, Code: code})
		if len(diags) == api.MaxDiags {
			break
		}
	}
	if len(diags) == 0 && len(lines) > api.MaxEvents {
		diags = []api.Diag{{Line: 1, Column: 1, Code: api.ErrLimit}}
	}
	if len(diags) > 0 {
		return nil, diags
	}
	return log, nil
}

// parseLine returns the event of a line of text.
func parseLine(l api.Line) (api.Event, api.Errno) {
	var words []string
	for _, f := range l.Fields {
		if f.Quoted {
			return api.Event{}, api.ErrForm
		}
		words = append(words, f.Text)
	}
	return Parse(strings.Join(words, " "))
}
