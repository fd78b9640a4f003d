package text_test

import (
	"math/rand"
	"slices"
	"strings"
	"testing"

	"scorebook/api"
	"scorebook/text"
)

func word(s string, column int) api.Field { return api.Field{Text: s, Column: column} }

func quoted(s string, column int) api.Field {
	return api.Field{Text: s, Column: column, Quoted: true}
}

func line(number int, f ...api.Field) api.Line { return api.Line{Number: number, Fields: f} }

func sameLines(a, b []api.Line) bool {
	return slices.EqualFunc(a, b, func(x, y api.Line) bool {
		return x.Number == y.Number && slices.Equal(x.Fields, y.Fields)
	})
}

func checkSplit(t *testing.T, src string, lines []api.Line, diags []api.Diag) {
	t.Helper()
	l, d := text.Split(src)
	if !sameLines(l, lines) || !slices.Equal(d, diags) {
		if len(src) > 60 {
			src = src[:60] + ".."
		}
		t.Errorf("Split(%q) = %v, %v; want %v, %v", src, l, d, lines, diags)
	}
}

// P3.1

func TestSplit(t *testing.T) {
	for _, x := range []struct {
		src  string
		want []api.Line
	}{
		{"A  \"b \"\"c\"\"\" ; x\n\nB;", []api.Line{line(1, word("A", 1), quoted(`b "c"`, 4)), line(3, word("B", 1))}},
		{"", nil},
		{"\n\n\n", nil},
		{" \t \n;\n ; \"\x00\xff\r", nil},
		{"A", []api.Line{line(1, word("A", 1))}},
		{"A\n", []api.Line{line(1, word("A", 1))}},
		{"A\nB", []api.Line{line(1, word("A", 1)), line(2, word("B", 1))}},
		{"\n\n \t x\t\ty ", []api.Line{line(3, word("x", 4), word("y", 7))}},
		{"A;B C", []api.Line{line(1, word("A", 1))}},
		{"A;\"\x01", []api.Line{line(1, word("A", 1))}},
		{`"A";"`, []api.Line{line(1, quoted("A", 1))}},
		{`""`, []api.Line{line(1, quoted("", 1))}},
		{`"" ""`, []api.Line{line(1, quoted("", 1), quoted("", 4))}},
		{`""""`, []api.Line{line(1, quoted(`"`, 1))}},
		{`""""""`, []api.Line{line(1, quoted(`""`, 1))}},
		{`"a;b"` + "\t" + `c`, []api.Line{line(1, quoted("a;b", 1), word("c", 7))}},
		{`" ~ "`, []api.Line{line(1, quoted(" ~ ", 1))}},
		{"!#$%&'()*+,-./:<=>?@[\\]^_`{|}~", []api.Line{line(1, word("!#$%&'()*+,-./:<=>?@[\\]^_`{|}~", 1))}},
	} {
		checkSplit(t, x.src, x.want, nil)
	}
}

func TestSplitRefused(t *testing.T) {
	for _, x := range []struct {
		src    string
		column int
	}{
		{`A"`, 2}, {`"A`, 3}, {`"A"B`, 4},
		{`A"B"`, 2}, {`A ab"`, 5}, {`"A""`, 5}, {`"`, 2}, {`"""`, 4}, {`"""""`, 6}, {`"A" "`, 6}, {`"A""B`, 6},
		{`"A""B"C`, 7}, {"\"A\"\x01", 4}, {"\"A\"\r", 4}, {`A "B"!`, 6},
		{"A\r", 2}, {"\r", 1}, {"\x00", 1}, {" \x7f", 2}, {"A \x80", 3}, {"AB\x01", 3}, {"é", 1}, {"\v", 1}, {"\u00a0A", 1},
		{"\"a\tb\"", 3}, {"\"\x1f\"", 2}, {"\"\x7f\"", 2}, {"\"é\"", 2}, {"\"\x00", 2}, {"\"a\x80", 3},
		{"\x01 \x02", 1}, {"\"\x01\x02", 2}, {"A\x01\"", 2}, {`"a ; b`, 7}, {"A \"b \t", 6},
	} {
		checkSplit(t, x.src, nil, []api.Diag{{Line: 1, Column: x.column, Code: api.ErrForm}})
		checkSplit(t, "A\n"+x.src+"\nB", []api.Line{line(1, word("A", 1)), line(3, word("B", 1))}, []api.Diag{{Line: 2, Column: x.column, Code: api.ErrForm}})
	}
}

func TestSplitEveryByte(t *testing.T) {
	for b := range 256 {
		if b == '\n' {
			continue
		}
		c := string([]byte{byte(b)})
		white := b == 9 || b == 32
		inWord := b >= 33 && b <= 126 && b != '"' && b != ';'
		refused := func(column int) []api.Diag {
			return []api.Diag{{Line: 1, Column: column, Code: api.ErrForm}}
		}
		switch {
		case white || b == ';':
			checkSplit(t, "a"+c+"a", map[bool][]api.Line{true: {line(1, word("a", 1), word("a", 3))}, false: {line(1, word("a", 1))}}[white], nil)
			checkSplit(t, `"a"`+c, []api.Line{line(1, quoted("a", 1))}, nil)
		case inWord:
			checkSplit(t, "a"+c+"a", []api.Line{line(1, word("a"+c+"a", 1))}, nil)
			checkSplit(t, `"a"`+c, nil, refused(4))
		default:
			checkSplit(t, "a"+c+"a", nil, refused(2))
		}
		switch {
		case b == '"':
		case b >= 32 && b <= 126:
			checkSplit(t, `"a`+c+`a"`, []api.Line{line(1, quoted("a"+c+"a", 1))}, nil)
		default:
			checkSplit(t, `"a`+c+`a"`, nil, refused(3))
		}
		checkSplit(t, "a;"+c, []api.Line{line(1, word("a", 1))}, nil)
	}
}

func TestSplitLongLines(t *testing.T) {
	long := api.Diag{Line: 1, Column: api.MaxLine + 1, Code: api.ErrLimit}
	full := strings.Repeat("x", api.MaxLine)
	checkSplit(t, full, []api.Line{line(1, word(full, 1))}, nil)
	checkSplit(t, full+"\n"+full, []api.Line{line(1, word(full, 1)), line(2, word(full, 1))}, nil)
	checkSplit(t, full+"x", nil, []api.Diag{long})
	checkSplit(t, full+"x\nA", []api.Line{line(2, word("A", 1))}, []api.Diag{long})
	checkSplit(t, "\x01"+full, nil, []api.Diag{long})
	checkSplit(t, ";"+full, nil, []api.Diag{long})
	checkSplit(t, strings.Repeat(" ", api.MaxLine+1), nil, []api.Diag{long})
	checkSplit(t, strings.Repeat(" ", api.MaxLine), nil, nil)
	checkSplit(t, `"`+full[1:], nil, []api.Diag{{Line: 1, Column: api.MaxLine + 1, Code: api.ErrForm}})
}

func TestSplitLongSources(t *testing.T) {
	only := []api.Diag{{Line: 1, Column: 1, Code: api.ErrLimit}}
	full := "A" + strings.Repeat("\n", api.MaxText-1)
	checkSplit(t, full, []api.Line{line(1, word("A", 1))}, nil)
	checkSplit(t, full+"\n", nil, only)
	checkSplit(t, strings.Repeat("\x01\n", api.MaxText), nil, only)
	checkSplit(t, strings.Repeat("x", api.MaxText+1), nil, only)
	checkSplit(t, strings.Repeat("x", api.MaxText), nil, []api.Diag{{Line: 1, Column: api.MaxLine + 1, Code: api.ErrLimit}})
}

func TestSplitManyDiagnostics(t *testing.T) {
	var want []api.Diag
	for n := range api.MaxDiags {
		want = append(want, api.Diag{Line: n + 2, Column: 2, Code: api.ErrForm})
	}
	src := "A\n" + strings.Repeat(" \x01\n", api.MaxDiags)
	checkSplit(t, src+"B", []api.Line{line(1, word("A", 1)), line(api.MaxDiags+2, word("B", 1))}, want)
	checkSplit(t, src+"\x01\nB", []api.Line{line(1, word("A", 1)), line(api.MaxDiags+3, word("B", 1))}, want)
}

// sourceBytes are bytes that change what a line is.
const sourceBytes = "aB9\"\"\"\"; \t\n\x01\x7f\x80~!"

func randomSource(r *rand.Rand) string {
	out := make([]byte, r.Intn(24))
	for i := range out {
		out[i] = sourceBytes[r.Intn(len(sourceBytes))]
		if r.Intn(3) > 0 {
			out[i] = " \"a"[r.Intn(3)]
		}
	}
	return string(out)
}

// splitByStates reads a line byte by byte; the column is 0 if the line is accepted.
func splitByStates(s string) (fields []api.Field, column int) {
	const (
		between = iota
		inWord
		inQuotes
		behindQuote // one that ends the string, or is the first of two
	)
	state := between
	for i := range len(s) {
		b := s[i]
		last := len(fields) - 1
		switch {
		case state == inQuotes && b == '"':
			state = behindQuote
		case state == inQuotes && b >= 32 && b <= 126, state == behindQuote && b == '"':
			fields[last].Text += string(b)
			state = inQuotes
		case state == inQuotes:
			return nil, i + 1
		case b == ';':
			return fields, 0
		case b == 9 || b == 32:
			state = between
		case state == between && b == '"':
			fields = append(fields, quoted("", i+1))
			state = inQuotes
		case state == behindQuote, b < 33, b > 126, b == '"':
			return nil, i + 1
		case state == between:
			fields = append(fields, word(string(b), i+1))
			state = inWord
		default:
			fields[last].Text += string(b)
		}
	}
	if state == inQuotes {
		return nil, len(s) + 1
	}
	return fields, 0
}

func TestSplitAgainstStates(t *testing.T) {
	r := rand.New(rand.NewSource(1))
	for range 20_000 {
		src := randomSource(r)
		var lines []api.Line
		var diags []api.Diag
		for i, s := range strings.Split(src, "\n") {
			fields, column := splitByStates(s)
			if column > 0 {
				diags = append(diags, api.Diag{Line: i + 1, Column: column, Code: api.ErrForm})
			} else if len(fields) > 0 {
				lines = append(lines, line(i+1, fields...))
			}
		}
		checkSplit(t, src, lines, diags)
	}
}

func TestSplitSharesNoMemory(t *testing.T) {
	l, _ := text.Split("a b c\nd e\nf")
	l[0].Fields[0].Text = "changed"
	_ = append(l[0].Fields, word("more", 1))
	_ = append(l[1].Fields[:1], word("more", 1))
	if l[1].Fields[0] != word("d", 1) || l[2].Fields[0] != word("f", 1) {
		t.Errorf("other lines changed: %v", l)
	}
	checkSplit(t, "a b c", []api.Line{line(1, word("a", 1), word("b", 3), word("c", 5))}, nil)
}

// P3.2

func TestWrite(t *testing.T) {
	for _, x := range []struct {
		lines []api.Line
		want  string
	}{
		{nil, ""},
		{[]api.Line{{}, {Number: 7}}, ""},
		{[]api.Line{line(9, word("A", 70), word("12", 3)), {}, line(1, word("B", 0))}, "A 12\nB\n"},
		{[]api.Line{line(1, word("A", 1), quoted("A", 3))}, "A \"A\"\n"},
		{[]api.Line{line(1, word("", 1), quoted("", 3))}, "\"\" \"\"\n"},
		{[]api.Line{line(1, word("a b", 1), word("a;b", 2), word(`a"b`, 3))}, `"a b" "a;b" "a""b"` + "\n"},
		{[]api.Line{line(1, word(" ", 1), word(";", 1), word(`"`, 1), word("~!", 1))}, `" " ";" """" ~!` + "\n"},
		{[]api.Line{line(-1, word("a\tb\n", -1), word("é", 1), word("\x00\x7f", 1))}, "\"a\tb\n\" \"é\" \"\x00\x7f\"\n"},
	} {
		if s := text.Write(x.lines); s != x.want {
			t.Errorf("Write(%v) = %q; want %q", x.lines, s, x.want)
		}
	}
}

func randomFields(r *rand.Rand) []api.Field {
	var out []api.Field
	for range r.Intn(5) {
		s := make([]byte, r.Intn(4))
		for i := range s {
			s[i] = byte(32 + r.Intn(95))
			if r.Intn(2) == 0 {
				s[i] = " \";a"[r.Intn(4)]
			}
		}
		out = append(out, api.Field{Text: string(s), Column: r.Intn(9) - 4, Quoted: r.Intn(2) == 0})
	}
	return out
}

func isWord(s string) bool {
	return s != "" && !strings.ContainsFunc(s, func(c rune) bool { return c < 33 || c > 126 || c == '"' || c == ';' })
}

// checkReadBack checks that the fields that were read are those that were written, quoted where they have to be.
func checkReadBack(t *testing.T, wrote, got []api.Field) {
	t.Helper()
	same := slices.EqualFunc(wrote, got, func(a, b api.Field) bool {
		return a.Text == b.Text && b.Quoted == (a.Quoted || !isWord(a.Text))
	})
	if !same {
		t.Errorf("wrote %v, read %v", wrote, got)
	}
}

func TestWriteIsReadBack(t *testing.T) {
	r := rand.New(rand.NewSource(2))
	for range 5_000 {
		var lines, filled []api.Line
		for range r.Intn(4) {
			l := line(r.Intn(5), randomFields(r)...)
			lines = append(lines, l)
			if len(l.Fields) > 0 {
				filled = append(filled, l)
			}
		}
		s := text.Write(lines)
		got, diags := text.Split(s)
		if len(diags) > 0 || len(got) != len(filled) || strings.Count(s, "\n") != len(filled) {
			t.Fatalf("Split(%q) = %v, %v; want %v", s, got, diags, filled)
		}
		for i, l := range got {
			checkReadBack(t, filled[i].Fields, l.Fields)
		}
		if again := text.Write(got); again != s {
			t.Errorf("%q is written again as %q", s, again)
		}
	}
}

// P3.5

func TestQuote(t *testing.T) {
	for s, want := range map[string]string{"": `""`, `a"`: `"a"""`, `"`: `""""`, `""`: `""""""`, "a b;": `"a b;"`, "\x00\n\xff": "\"\x00\n\xff\""} {
		if got := text.Quote(s); got != want {
			t.Errorf("Quote(%q) = %q; want %q", s, got, want)
		}
	}
}

func TestUnquote(t *testing.T) {
	for s, want := range map[string]string{`""`: "", `"a"`: "a", `"a"""`: `a"`, `""""`: `"`, `""""""`: `""`, `" ;~ "`: " ;~ ", `"a""b"`: `a"b`} {
		if got, e := text.Unquote(s); got != want || e != api.OK {
			t.Errorf("Unquote(%q) = %q, %d; want %q", s, got, e, want)
		}
	}
	for _, s := range []string{"", "a", `"`, `"a`, `a"`, `"""`, `"""""`, `"a"b"`, `"a" `, ` "a"`, `"a";`, `"a" "b"`, `"a"b`, "\"\t\"", "\"\n\"", "\"\x1f\"", "\"\x7f\"", "\"é\"", "\"a\"\n"} {
		if got, e := text.Unquote(s); got != "" || e != api.ErrForm {
			t.Errorf("Unquote(%q) = %q, %d; want ErrForm", s, got, e)
		}
	}
}

func TestUnquoteOfQuote(t *testing.T) {
	for b := range 256 {
		s := `x"` + string([]byte{byte(b)}) + `"`
		got, e := text.Unquote(text.Quote(s))
		if b >= 32 && b <= 126 {
			if got != s || e != api.OK {
				t.Errorf("Unquote(Quote(%q)) = %q, %d", s, got, e)
			}
		} else if got != "" || e != api.ErrForm {
			t.Errorf("Unquote(Quote(%q)) = %q, %d; want ErrForm", s, got, e)
		}
	}
	long := strings.Repeat(`"a `, api.MaxText)
	if got, e := text.Unquote(text.Quote(long)); got != long || e != api.OK {
		t.Errorf("a long string is not unquoted: %d bytes, %d", len(got), e)
	}
}
