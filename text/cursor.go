package text

import (
	"slices"

	"scorebook/api"
)

// Cursor reads the fields of a line from left to right and keeps the first error.
type Cursor struct {
	line   int
	fields []api.Field
	next   int       // index of the field that is read next
	code   api.Errno // the first error, OK if there is none
	column int       // column of the first error
}

// At returns a cursor before the first field of a line.
func At(l api.Line) *Cursor { return &Cursor{line: l.Number, fields: slices.Clone(l.Fields)} }

// More reports whether a field follows and no error has occurred.
func (c *Cursor) More() bool { return c.reads() && c.next < len(c.fields) }

// reads reports whether there is a cursor, without an error.
func (c *Cursor) reads() bool { return c != nil && c.code == api.OK }

// Word returns the next field, which is not quoted.
func (c *Cursor) Word() string {
	f, _ := c.read(false)
	return f.Text
}

// read reads the next field, if there is one that is quoted or not, as it should be.
func (c *Cursor) read(quoted bool) (api.Field, bool) {
	if !c.reads() {
		return api.Field{}, false
	}
	if c.next >= len(c.fields) {
		c.fail(0, api.ErrForm)
		return api.Field{}, false
	}
	f := c.fields[c.next]
	if f.Quoted != quoted {
		c.fail(f.Column, api.ErrForm)
		return api.Field{}, false
	}
	c.next++
	return f, true
}

// fail makes e the error in a column.
func (c *Cursor) fail(column int, e api.Errno) { c.column, c.code = column, e }

// Keyword reads the next field, which is a given word.
func (c *Cursor) Keyword(w string) bool {
	f, ok := c.read(false)
	if !ok {
		return false
	}
	if f.Text != w {
		c.fail(f.Column, api.ErrForm)
		return false
	}
	return true
}

// OneOf returns the index in a list of the word that is the next field, -1 if it is not in the list.
func (c *Cursor) OneOf(l []string) int {
	f, ok := c.read(false)
	if !ok {
		return -1
	}
	at := slices.Index(l, f.Text)
	if at < 0 {
		c.fail(f.Column, api.ErrForm)
	}
	return at
}

// Ident returns the next field, which is a name.
func (c *Cursor) Ident() string {
	f, ok := c.read(false)
	if !ok {
		return ""
	}
	if !Name(f.Text) {
		c.fail(f.Column, api.ErrName)
		return ""
	}
	return f.Text
}

// Int returns the next field, which is an integer from lo to hi.
func (c *Cursor) Int(lo, hi int64) int64 {
	f, ok := c.read(false)
	if !ok {
		return 0
	}
	n, e := Number(f.Text, lo, hi)
	if e != api.OK {
		c.fail(f.Column, e)
	}
	return n
}

// String returns the next field, which is quoted.
func (c *Cursor) String() string {
	f, _ := c.read(true)
	return f.Text
}

// Reject makes an error of the field that was read last.
func (c *Cursor) Reject(e api.Errno) {
	if !c.reads() || e == api.OK {
		return
	}
	column := 0
	if c.next > 0 {
		column = c.fields[c.next-1].Column
	}
	c.fail(column, e)
}

// Close returns the first error as a diagnostic, and whether there is one; fields that are left are an error.
func (c *Cursor) Close() (api.Diag, bool) {
	switch {
	case c == nil:
		return api.Diag{}, false
	case c.code != api.OK:
		return api.Diag{Line: c.line, Column: c.column, Code: c.code}, true
	case c.next < len(c.fields):
		return api.Diag{Line: c.line, Column: c.fields[c.next].Column, Code: api.ErrForm}, true
	}
	return api.Diag{}, false
}
