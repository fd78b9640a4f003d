package text_test

import (
	"testing"

	"scorebook/api"
	"scorebook/text"
)

// reader reads a field in some way, and reports whether the result is the zero value of the method (-1 for OneOf).
type reader struct {
	name  string
	quote bool // it reads quoted fields
	read  func(c *text.Cursor) (zero bool)
}

func readers() []reader {
	return []reader{
		{"Word", false, func(c *text.Cursor) bool { return c.Word() == "" }},
		{"Keyword", false, func(c *text.Cursor) bool { return !c.Keyword("A7") }},
		{"OneOf", false, func(c *text.Cursor) bool { return c.OneOf([]string{"A7", ""}) == -1 }},
		{"Ident", false, func(c *text.Cursor) bool { return c.Ident() == "" }},
		{"Int", false, func(c *text.Cursor) bool { return c.Int(least, most) == 0 }},
		{"String", true, func(c *text.Cursor) bool { return c.String() == "" }},
	}
}

func checkClose(t *testing.T, what string, c *text.Cursor, want api.Diag) {
	t.Helper()
	for range 2 {
		if d, bad := c.Close(); d != want || bad != (want != api.Diag{}) {
			t.Errorf("%s: Close() = %v, %v; want %v", what, d, bad, want)
		}
	}
}

func failed(number, column int, e api.Errno) api.Diag {
	return api.Diag{Line: number, Column: column, Code: e}
}

// P3.6

func TestCursorReads(t *testing.T) {
	c := text.At(line(3, word("ROW", 2), word("x;\"", 6), word("B", 9), word("N-1", 11), word("-12", 15), quoted("", 19), quoted(`q"`, 22)))
	if !c.More() || !c.Keyword("ROW") {
		t.Error("Keyword")
	}
	if s := c.Word(); s != "x;\"" {
		t.Errorf("Word: %q", s)
	}
	if n := c.OneOf([]string{"A", "B", "B"}); n != 1 {
		t.Errorf("OneOf: %d", n)
	}
	if s := c.Ident(); s != "N-1" {
		t.Errorf("Ident: %q", s)
	}
	if n := c.Int(-12, 12); n != -12 {
		t.Errorf("Int: %d", n)
	}
	if s := c.String(); s != "" || !c.More() {
		t.Errorf("String: %q", s)
	}
	checkClose(t, "a field left", c, failed(3, 22, api.ErrForm))
	if s := c.String(); s != `q"` || c.More() {
		t.Errorf("String after Close: %q", s)
	}
	checkClose(t, "all read", c, api.Diag{})
}

func TestCursorZeroResultsWithoutError(t *testing.T) {
	c := text.At(line(1, word("", 1), word("", 2), word("", 3), word("0", 4), quoted("", 5)))
	if c.Word() != "" || !c.Keyword("") || c.OneOf([]string{"x", ""}) != 1 || c.Int(0, 0) != 0 || c.String() != "" {
		t.Error("empty words")
	}
	checkClose(t, "empty words", c, api.Diag{})
}

func TestCursorWithoutField(t *testing.T) {
	for _, x := range readers() {
		c := text.At(line(4, word("A", 9)))
		c.Word()
		checkClose(t, x.name+" not called", c, api.Diag{})
		if !x.read(c) {
			t.Errorf("%s has a result without a field", x.name)
		}
		checkClose(t, x.name, c, failed(4, 0, api.ErrForm))
		c = text.At(line(-2))
		if c.More() || !x.read(c) {
			t.Errorf("%s has a result in an empty line", x.name)
		}
		checkClose(t, x.name+" in an empty line", c, failed(-2, 0, api.ErrForm))
	}
}

func TestCursorOnOtherFields(t *testing.T) {
	for _, x := range readers() {
		c := text.At(line(5, api.Field{Text: "A7", Column: 3, Quoted: !x.quote}, word("A7", 8)))
		if !x.read(c) {
			t.Errorf("%s has a result of a field that is quoted: %v", x.name, !x.quote)
		}
		checkClose(t, x.name, c, failed(5, 3, api.ErrForm))
	}
}

func TestCursorOnOtherTexts(t *testing.T) {
	for _, x := range []struct {
		name, text string
		e          api.Errno
		read       func(c *text.Cursor) (zero bool)
	}{
		{"Keyword", "a", api.ErrForm, func(c *text.Cursor) bool { return !c.Keyword("A") }},
		{"Keyword", "AB", api.ErrForm, func(c *text.Cursor) bool { return !c.Keyword("A") }},
		{"Keyword", "", api.ErrForm, func(c *text.Cursor) bool { return !c.Keyword("A") }},
		{"OneOf", "C", api.ErrForm, func(c *text.Cursor) bool { return c.OneOf([]string{"A", "B"}) == -1 }},
		{"OneOf", "", api.ErrForm, func(c *text.Cursor) bool { return c.OneOf(nil) == -1 }},
		{"Ident", "a", api.ErrName, func(c *text.Cursor) bool { return c.Ident() == "" }},
		{"Ident", "1", api.ErrName, func(c *text.Cursor) bool { return c.Ident() == "" }},
		{"Ident", "", api.ErrName, func(c *text.Cursor) bool { return c.Ident() == "" }},
		{"Int", "x", api.ErrForm, func(c *text.Cursor) bool { return c.Int(0, 9) == 0 }},
		{"Int", "07", api.ErrForm, func(c *text.Cursor) bool { return c.Int(0, 9) == 0 }},
		{"Int", "", api.ErrForm, func(c *text.Cursor) bool { return c.Int(0, 9) == 0 }},
		{"Int", "10", api.ErrRange, func(c *text.Cursor) bool { return c.Int(0, 9) == 0 }},
		{"Int", "-1", api.ErrRange, func(c *text.Cursor) bool { return c.Int(0, 9) == 0 }},
		{"Int", "99999999999999999999", api.ErrRange, func(c *text.Cursor) bool { return c.Int(least, most) == 0 }},
	} {
		c := text.At(line(6, word("first", 1), word(x.text, 7), word("A", 20)))
		c.Word()
		if !x.read(c) {
			t.Errorf("%s has a result of %q", x.name, x.text)
		}
		checkClose(t, x.name+" of "+x.text, c, failed(6, 7, x.e))
	}
}

func TestCursorAfterError(t *testing.T) {
	for _, first := range readers() {
		for _, then := range readers() {
			c := text.At(line(7, api.Field{Text: "A7", Column: 2, Quoted: !first.quote}, word("A7", 5), quoted("A7", 9)))
			first.read(c)
			if c.More() || !then.read(c) {
				t.Errorf("%s has a result after an error of %s", then.name, first.name)
			}
			c.Reject(api.ErrSum)
			checkClose(t, then.name+" after "+first.name, c, failed(7, 2, api.ErrForm))
		}
	}
}

func TestCursorStopsAtWrongText(t *testing.T) {
	for _, x := range readers() {
		c := text.At(line(8, word("b", 4), api.Field{Text: "A7", Column: 6, Quoted: x.quote}))
		if c.Ident() != "" || c.More() || !x.read(c) {
			t.Errorf("%s has a result after a field that is no name", x.name)
		}
		checkClose(t, x.name, c, failed(8, 4, api.ErrName))
	}
}

// P3.7

func TestReject(t *testing.T) {
	c := text.At(line(2, word("A", 3), word("B", 5)))
	c.Word()
	c.Reject(api.OK)
	if !c.More() {
		t.Error("OK is an error")
	}
	c.Word()
	c.Reject(api.ErrExists)
	c.Reject(api.ErrSum)
	if c.More() || c.Word() != "" {
		t.Error("a field is read after Reject")
	}
	checkClose(t, "Reject", c, failed(2, 5, api.ErrExists))
	c = text.At(line(2, word("A", 3), word("B", 5)))
	c.Word()
	c.Reject(api.Errno(-9))
	checkClose(t, "another number", c, failed(2, 3, api.Errno(-9)))
	c.Reject(api.OK)
	checkClose(t, "OK after an error", c, failed(2, 3, api.Errno(-9)))
}

func TestRejectBeforeFields(t *testing.T) {
	c := text.At(line(2, word("A", 3)))
	c.Reject(api.ErrLimit)
	checkClose(t, "nothing read", c, failed(2, 0, api.ErrLimit))
	c = text.At(api.Line{})
	c.Reject(api.ErrLimit)
	checkClose(t, "an empty line", c, failed(0, 0, api.ErrLimit))
}

func TestRejectAfterQuoted(t *testing.T) {
	c := text.At(line(2, word("A", 3), quoted("B", 8)))
	if c.Word() != "A" || c.String() != "B" {
		t.Error("Word, String")
	}
	c.Reject(api.ErrOrder)
	checkClose(t, "Reject", c, failed(2, 8, api.ErrOrder))
}

func TestClose(t *testing.T) {
	checkClose(t, "an empty line", text.At(line(9)), api.Diag{})
	checkClose(t, "nothing read", text.At(line(9, quoted("x", 4))), failed(9, 4, api.ErrForm))
	c := text.At(line(-9, word("x", -4), word("y", -7)))
	c.Word()
	checkClose(t, "numbers of any size", c, failed(-9, -7, api.ErrForm))
	if c.Word() != "y" {
		t.Error("Close changes what is read")
	}
	checkClose(t, "all read", c, api.Diag{})
}

func TestCursorSharesNoMemory(t *testing.T) {
	l := line(1, word("A", 1), word("B", 3))
	c := text.At(l)
	l.Fields[0], l.Fields[1] = word("x", 9), quoted("y", 9)
	if c.Word() != "A" || c.Word() != "B" {
		t.Error("the cursor reads what the line has now")
	}
	c.Reject(api.ErrSum)
	checkClose(t, "Reject", c, failed(1, 3, api.ErrSum))
}

func TestNilCursor(t *testing.T) {
	var c *text.Cursor
	for _, x := range readers() {
		if c.More() || !x.read(c) {
			t.Errorf("%s has a result of nil", x.name)
		}
		c.Reject(api.ErrSum)
		checkClose(t, x.name, c, api.Diag{})
	}
}

func TestZeroCursor(t *testing.T) {
	for _, x := range readers() {
		c := new(text.Cursor)
		checkClose(t, "new", c, api.Diag{})
		if c.More() || !x.read(c) {
			t.Errorf("%s has a result of a zero cursor", x.name)
		}
		checkClose(t, x.name, c, failed(0, 0, api.ErrForm))
	}
}
