package rules

import (
	"scorebook/api"
	"scorebook/text"
)

// maxNumber is the greatest number that is read; Check refuses most of them then.
const maxNumber = 10_000

// answers returns the words for true and false.
func answers() []string { return []string{"YES", "NO"} }

// Text returns the text of rules.
func Text(r api.Rules) (string, api.Errno) {
	if e := Check(r); e != api.OK {
		return "", e
	}
	lines := []api.Line{
		words("RULES", r.Name),
		numbers("SIDE", r.Side),
		numbers("INNINGS", r.Innings),
		numbers("OVERS", r.Overs),
		numbers("BALLS", r.Balls),
		numbers("QUOTA", r.Quota),
		numbers("RUNS", r.Wide, r.NoBall),
		words("FREEHIT", answer(r.FreeHit)),
		numbers("NEWBALL", r.NewBall),
		numbers("FOLLOWON", r.FollowOn),
		numbers("REVIEWS", r.Reviews),
		numbers("OUTSIDE", r.Outside),
	}
	for _, p := range r.Power {
		lines = append(lines, numbers("POWER", p.From, p.To, p.Outside))
	}
	return text.Write(lines), api.OK
}

// words returns a line of words.
func words(l ...string) api.Line {
	var line api.Line
	for _, w := range l {
		line.Fields = append(line.Fields, api.Field{Text: w})
	}
	return line
}

// numbers returns a line of a keyword and numbers.
func numbers(keyword string, l ...int) api.Line {
	line := words(keyword)
	for _, n := range l {
		line.Fields = append(line.Fields, api.Field{Text: text.Decimal(int64(n))})
	}
	return line
}

func answer(yes bool) string {
	if yes {
		return answers()[0]
	}
	return answers()[1]
}

// Parse returns the rules of a text, or its diagnostics.
func Parse(src string) (api.Rules, []api.Diag) {
	lines, diags := text.Split(src)
	if len(diags) > 0 {
		return api.Rules{}, diags
	}
	r, d := read(lines)
	if d.Code == api.OK {
		d = api.Diag{Line: 1, Column: 1, Code: Check(r)}
	}
	if d.Code != api.OK {
		return api.Rules{}, []api.Diag{d}
	}
	return r, nil
}

// read returns the rules that lines tell, and the first diagnostic of a line or of a line that is missing.
func read(lines []api.Line) (api.Rules, api.Diag) {
	var r api.Rules
	steps := readers(&r)
	for i, l := range lines {
		c := text.At(l)
		if i < len(steps) {
			steps[i](c)
		} else {
			readPower(&r, c)
		}
		if d, bad := c.Close(); bad {
			return r, d
		}
	}
	if len(lines) < len(steps) {
		return r, missing(lines)
	}
	return r, api.Diag{}
}

// readers returns what reads each line before the powerplays into rules.
func readers(r *api.Rules) []func(c *text.Cursor) {
	return []func(c *text.Cursor){
		func(c *text.Cursor) {
			c.Keyword("RULES")
			r.Name = c.Ident()
		},
		reader("SIDE", &r.Side),
		reader("INNINGS", &r.Innings),
		reader("OVERS", &r.Overs),
		reader("BALLS", &r.Balls),
		reader("QUOTA", &r.Quota),
		reader("RUNS", &r.Wide, &r.NoBall),
		func(c *text.Cursor) {
			c.Keyword("FREEHIT")
			r.FreeHit = c.OneOf(answers()) == 0
		},
		reader("NEWBALL", &r.NewBall),
		reader("FOLLOWON", &r.FollowOn),
		reader("REVIEWS", &r.Reviews),
		reader("OUTSIDE", &r.Outside),
	}
}

// reader returns what reads a line of a keyword and numbers.
func reader(keyword string, into ...*int) func(c *text.Cursor) {
	return func(c *text.Cursor) {
		c.Keyword(keyword)
		for _, n := range into {
			*n = int(c.Int(0, maxNumber))
		}
	}
}

// readPower reads the line of a powerplay.
func readPower(r *api.Rules, c *text.Cursor) {
	var p api.Phase
	reader("POWER", &p.From, &p.To, &p.Outside)(c)
	r.Power = append(r.Power, p)
}

// missing returns the diagnostic of a line that is missing behind lines.
func missing(lines []api.Line) api.Diag {
	number := 1
	if len(lines) > 0 {
		number = lines[len(lines)-1].Number + 1
	}
	return api.Diag{Line: number, Column: 1, Code: api.ErrForm}
}
