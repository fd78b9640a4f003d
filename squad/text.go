package squad

import (
	"scorebook/api"
	"scorebook/text"
)

const (
	captain = "CAPTAIN"
	keeper  = "KEEPER"
)

// Text returns the text of a side.
func Text(s api.Squad) (string, api.Errno) {
	if e := Check(s); e != api.OK {
		return "", e
	}
	lines := []api.Line{line("SIDE", s.Name)}
	for i, name := range s.Players {
		words := []string{"PLAYER", name}
		if i+1 == s.Captain {
			words = append(words, captain)
		}
		if i+1 == s.Keeper {
			words = append(words, keeper)
		}
		lines = append(lines, line(words...))
	}
	return text.Write(lines), api.OK
}

// line returns a line of words.
func line(words ...string) api.Line {
	var l api.Line
	for _, w := range words {
		l.Fields = append(l.Fields, api.Field{Text: w})
	}
	return l
}

// Parse returns the side of a text, or its diagnostics.
func Parse(src string) (api.Squad, []api.Diag) {
	lines, diags := text.Split(src)
	if len(diags) > 0 {
		return api.Squad{}, diags
	}
	s, d := read(lines)
	if d.Code == api.OK {
		d = api.Diag{Line: 1, Column: 1, Code: Check(s)}
	}
	if d.Code != api.OK {
		return api.Squad{}, []api.Diag{d}
	}
	return s, nil
}

// read returns the side that lines tell, and the first diagnostic of a line.
func read(lines []api.Line) (api.Squad, api.Diag) {
	if len(lines) == 0 {
		return api.Squad{}, api.Diag{Line: 1, Column: 1, Code: api.ErrForm}
	}
	var s api.Squad
	for i, l := range lines {
		c := text.At(l)
		if i == 0 {
			c.Keyword("SIDE")
			s.Name = c.Ident()
		} else {
			readPlayer(&s, c)
		}
		if d, bad := c.Close(); bad {
			return s, d
		}
	}
	return s, api.Diag{}
}

// readPlayer reads the line of a player into a side.
func readPlayer(s *api.Squad, c *text.Cursor) {
	c.Keyword("PLAYER")
	s.Players = append(s.Players, c.Ident())
	player := len(s.Players)
	for c.More() {
		switch c.OneOf([]string{captain, keeper}) {
		case 0:
			if s.Captain != 0 {
				c.Reject(api.ErrExists)
			} else if s.Keeper == player {
				c.Reject(api.ErrOrder)
			}
			s.Captain = player
		case 1:
			if s.Keeper != 0 {
				c.Reject(api.ErrExists)
			}
			s.Keeper = player
		}
	}
}
