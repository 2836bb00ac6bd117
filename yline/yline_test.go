package yline_test

import (
	"strings"
	"testing"

	"scarf/api"
	"scarf/quote"
	"scarf/samples"
	"scarf/yline"
)

// sp is a span written short.
func sp(from, to int) api.Span { return api.Span{From: from, To: to} }

// whole takes a text apart as one line.
func whole(s string) (api.Line, int, api.Errno) { return yline.Line(s, sp(0, len(s))) }

func TestLine(t *testing.T) { // P10.1
	none := api.Span{}
	for _, c := range []struct {
		s               string
		kind, indent    int
		key, rest, note api.Span
	}{
		{"", api.LineBlank, 0, none, sp(0, 0), none}, {"   ", api.LineBlank, 3, none, sp(3, 3), none}, {"# a: b", api.LineNote, 0, none, sp(0, 0), sp(0, 6)}, {"  #", api.LineNote, 2, none, sp(2, 2), sp(2, 3)}, {"  # ", api.LineNote, 2, none, sp(2, 2), sp(2, 4)},
		{"  a: b # c", api.LineEntry, 2, sp(2, 3), sp(5, 6), sp(7, 10)}, {"- 'x # y' # z", api.LineItem, 0, none, sp(2, 9), sp(10, 13)}, {"a:b", api.LineOther, 0, none, sp(0, 3), none},
		{"-", api.LineItem, 0, none, sp(1, 1), none}, {"- ", api.LineItem, 0, none, sp(2, 2), none}, {" -   # c", api.LineItem, 1, none, sp(5, 5), sp(5, 8)}, {"-  a b  ", api.LineItem, 0, none, sp(3, 6), none}, {"- - a", api.LineItem, 0, none, sp(2, 5), none},
		{"- a: b", api.LineItem, 0, none, sp(2, 6), none}, {"-a", api.LineOther, 0, none, sp(0, 2), none}, {"-a: b", api.LineEntry, 0, sp(0, 2), sp(4, 5), none}, {"-# a", api.LineOther, 0, none, sp(0, 4), none}, {"--", api.LineOther, 0, none, sp(0, 2), none}, {"-: 1", api.LineEntry, 0, sp(0, 1), sp(3, 4), none},
		{"a:", api.LineEntry, 0, sp(0, 1), sp(2, 2), none}, {"a:  ", api.LineEntry, 0, sp(0, 1), sp(4, 4), none}, {"a: # c", api.LineEntry, 0, sp(0, 1), sp(3, 3), sp(3, 6)}, {"a:# c", api.LineOther, 0, none, sp(0, 5), none}, {"a:   # c", api.LineEntry, 0, sp(0, 1), sp(5, 5), sp(5, 8)},
		{"a : b", api.LineEntry, 0, sp(0, 2), sp(4, 5), none}, {"a b: c: d", api.LineEntry, 0, sp(0, 3), sp(5, 9), none}, {": a", api.LineOther, 0, none, sp(0, 3), none}, {": a: b", api.LineEntry, 0, sp(0, 3), sp(5, 6), none}, {":", api.LineOther, 0, none, sp(0, 1), none}, {"::", api.LineEntry, 0, sp(0, 1), sp(2, 2), none},
		{"a #b: c", api.LineOther, 0, none, sp(0, 1), sp(2, 7)}, {"a#b: c", api.LineEntry, 0, sp(0, 3), sp(5, 6), none}, {"a: b#c", api.LineEntry, 0, sp(0, 1), sp(3, 6), none}, {"a: b # c # d", api.LineEntry, 0, sp(0, 1), sp(3, 4), sp(5, 12)}, {"a: b   #", api.LineEntry, 0, sp(0, 1), sp(3, 4), sp(7, 8)},
		{`"a": b`, api.LineEntry, 0, sp(0, 3), sp(5, 6), none}, {`'a: # b': c`, api.LineEntry, 0, sp(0, 8), sp(10, 11), none}, {`"a" : b`, api.LineOther, 0, none, sp(0, 7), none}, {`"a":b`, api.LineOther, 0, none, sp(0, 5), none}, {`"a":`, api.LineEntry, 0, sp(0, 3), sp(4, 4), none}, {`'a''b':`, api.LineEntry, 0, sp(0, 6), sp(7, 7), none},
		{`"a"`, api.LineOther, 0, none, sp(0, 3), none}, {`"a # b" # c`, api.LineOther, 0, none, sp(0, 7), sp(8, 11)}, {`'a' b: c`, api.LineOther, 0, none, sp(0, 8), none}, {`"a"# b`, api.LineOther, 0, none, sp(0, 6), none}, {`"a" x # b`, api.LineOther, 0, none, sp(0, 5), sp(6, 9)},
		{"[a]: b", api.LineOther, 0, none, sp(0, 6), none}, {"{a: b}", api.LineOther, 0, none, sp(0, 6), none}, {`{"a": "x # y"} # z`, api.LineOther, 0, none, sp(0, 8), sp(9, 18)}, {"[1] # a: b", api.LineOther, 0, none, sp(0, 3), sp(4, 10)},
		{`a: "b`, api.LineEntry, 0, sp(0, 1), sp(3, 5), none}, {`a: "b # c`, api.LineEntry, 0, sp(0, 1), sp(3, 5), sp(6, 9)}, {`- 'b # c`, api.LineItem, 0, none, sp(2, 4), sp(5, 8)}, {`a: "b # c" # d`, api.LineEntry, 0, sp(0, 1), sp(3, 10), sp(11, 14)}, {`a: "b" "# c"`, api.LineEntry, 0, sp(0, 1), sp(3, 12), none}, {`a: 'b' c # d`, api.LineEntry, 0, sp(0, 1), sp(3, 8), sp(9, 12)},
		{`a: b "# c"`, api.LineEntry, 0, sp(0, 1), sp(3, 10), none}, {`a: b " # c"`, api.LineEntry, 0, sp(0, 1), sp(3, 6), sp(7, 11)}, {"é: € ", api.LineEntry, 0, sp(0, 2), sp(4, 7), none}, {"a: |-", api.LineEntry, 0, sp(0, 1), sp(3, 5), none}, {"a\u00a0: b", api.LineEntry, 0, sp(0, 3), sp(5, 6), none},
	} {
		l, n, err := whole(c.s)
		want := api.Line{Kind: c.kind, Span: sp(0, len(c.s)), Indent: c.indent, Key: c.key, Rest: c.rest, Note: c.note}
		if l != want || n != len(c.s) || err != api.OK {
			t.Errorf("%q: %+v, %d, %d, not %+v", c.s, l, n, err, want)
		}
		// The same line within a text, behind what is like a part of it.
		s := "é #\n" + c.s + "\n# \""
		l, n, err = yline.Line(s, sp(5, 5+len(c.s)))
		move := func(p *api.Span) {
			if *p != none || p == &want.Span || p == &want.Rest {
				p.From, p.To = p.From+5, p.To+5
			}
		}
		move(&want.Span)
		move(&want.Key)
		move(&want.Rest)
		move(&want.Note)
		if l != want || n != 5+len(c.s) || err != api.OK {
			t.Errorf("%q within: %+v, %d, %d", c.s, l, n, err)
		}
	}
}

func TestLineWrong(t *testing.T) { // P10.1
	for _, span := range []api.Span{sp(-1, 1), sp(2, 1), sp(0, 9), sp(0, 3), sp(1, 2), sp(9, 9), sp(api.MinInt, api.MaxInt)} {
		if l, at, err := yline.Line("a\nb\x01", span); l != (api.Line{}) || at != 0 || err != api.ErrArg {
			t.Errorf("%v: %v, %d, %d", span, l, at, err)
		}
	}
	for s, want := range map[string]int{
		"a\tb": 1, "\t": 0, " \ta": 1, "a: b\r": 4, "# \x00": 2, "a\x7f": 1, "é\xff": 2, "\xed\xa0\x80": 0, "\"a\x7f\"": 2, "- 'a\x1f'": 4, "a \xc3": 2, "\u0080\x7f": 2,
		`"a`: 0, `  'a`: 2, `"a\x": b`: 0, `'a: b`: 0, ` "a # b`: 1, `"`: 0, `'`: 0, "\"\ta": 1,
	} {
		if l, at, err := whole(s); l != (api.Line{}) || at != want || err != api.ErrForm {
			t.Errorf("%q: %v, %d, %d, not %d", s, l, at, err, want)
		}
		at2 := want + 2
		if l, at, err := yline.Line("x\n"+s+"\ny", sp(2, 2+len(s))); l != (api.Line{}) || at != at2 || err != api.ErrForm {
			t.Errorf("%q within: %v, %d, %d", s, l, at, err)
		}
	}
	if l, at, err := yline.Line("\"a\nb\"", sp(0, 2)); at != 0 || err != api.ErrForm || l != (api.Line{}) {
		t.Errorf("a string over a line's end: %v, %d, %d", l, at, err)
	}
	if l, _, err := yline.Line("é", sp(1, 2)); err != api.ErrForm || l != (api.Line{}) {
		t.Errorf("within a rune: %v, %d", l, err)
	}
}

func TestSingle(t *testing.T) { // P10.2
	for _, c := range []struct {
		s    string
		at   int
		want string
		to   int
		err  api.Errno
	}{
		{"'a'", 0, "a", 3, api.OK}, {"''", 0, "", 2, api.OK}, {"''''", 0, "'", 4, api.OK}, {"x'a''b'y", 1, "a'b", 7, api.OK}, {"'a' 'b'", 0, "a", 3, api.OK}, {"'\\\"\x7fé'", 0, "\\\"\x7fé", 7, api.OK}, {"'a'''", 0, "a'", 5, api.OK}, {"'a'\x00", 0, "a", 3, api.OK}, {"'a'\xff", 0, "a", 3, api.OK},
		{"'''a", 0, "", 4, api.ErrForm}, {"'", 0, "", 1, api.ErrForm}, {"'a", 0, "", 2, api.ErrForm}, {"'''", 0, "", 3, api.ErrForm}, {"'a\nb'", 0, "", 2, api.ErrForm}, {"'a\xffb'", 0, "", 2, api.ErrForm}, {"'\t'", 0, "", 1, api.ErrForm}, {"'\ufffd'", 0, "\ufffd", 5, api.OK},
		{"", 0, "", 0, api.ErrForm}, {"a", 0, "", 0, api.ErrForm}, {"a", 1, "", 1, api.ErrForm}, {"a", 2, "", 0, api.ErrForm}, {"'a'", -1, "", 0, api.ErrForm}, {`"a"`, 0, "", 0, api.ErrForm}, {"xy", 1, "", 1, api.ErrForm}, {"'a'", api.MinInt, "", 0, api.ErrForm}, {"'a'", api.MaxInt, "", 0, api.ErrForm}, {"ab'c", 2, "", 4, api.ErrForm},
	} {
		if s, to, err := yline.Single(c.s, c.at); s != c.want || to != c.to || err != c.err {
			t.Errorf("%q at %d: %q, %d, %d", c.s, c.at, s, to, err)
		}
	}
}

func TestQuoted(t *testing.T) { // P10.3, P10.5
	for s, want := range map[string]string{"": "''", "a": "'a'", "'": "''''", "it's": "'it''s'", "\x7f\"\\": "'\x7f\"\\'", "é\ufffd": "'é\ufffd'"} {
		if q, err := yline.Quoted(s); q != want || err != api.OK {
			t.Errorf("%q: %q, %d", s, q, err)
		}
	}
	for _, s := range []string{"\xff", "a\n", "\t", "\x00", "\x1f", "a\xed\xa0\x80"} {
		if q, err := yline.Quoted(s); q != "" || err != api.ErrForm {
			t.Errorf("%q: %q, %d", s, q, err)
		}
	}
	x := samples.New(20)
	for range 500 {
		s := x.Word() + strings.Repeat("'", x.Under(3)) + x.Word()
		q, err := yline.Quoted(s)
		if strings.ContainsAny(s, "\n\t") {
			continue
		}
		if back, to, e := yline.Single("é"+q, 2); back != s || to != 2+len(q) || err != api.OK || e != api.OK {
			t.Errorf("%q: %q, %q", s, q, back)
		}
	}
}

func TestPartsInOrder(t *testing.T) { // P10.4, P10.6
	x := samples.New(21)
	parts := []string{" ", "  ", "a", "-", ":", ": ", "- ", " #", "# c", "'", "\"", "[", "{", "é", "'x # y'", `"z: "`, "|"}
	for range 5000 {
		var b strings.Builder
		for range x.Under(8) {
			b.WriteString(parts[x.Under(len(parts))])
		}
		s := b.String()
		l, n, err := whole(s)
		if err != api.OK {
			text := strings.TrimLeft(s, " ")
			_, e := quote.End(text, 0)
			_, _, f := yline.Single(text, 0)
			if n != len(s)-len(text) || e == api.OK || f == api.OK || !strings.HasPrefix(text, "'") && !strings.HasPrefix(text, `"`) {
				t.Errorf("%q: %d, %d", s, n, err)
			}
			continue
		}
		if n != len(s) || l.Span != sp(0, len(s)) || strings.Repeat(" ", l.Indent) != s[:l.Indent] || l.Rest.From < l.Indent || l.Rest.From > l.Rest.To {
			t.Errorf("%q: %+v", s, l)
			continue
		}
		at := l.Indent
		between := ""
		if l.Key != (api.Span{}) {
			if l.Kind != api.LineEntry || l.Key.From != at || l.Key.To <= at {
				t.Errorf("%q: %+v", s, l)
			}
			at = l.Key.To
		}
		between += s[at:l.Rest.From]
		if l.Note != (api.Span{}) {
			if l.Note.From < l.Rest.To || l.Note.To != len(s) || s[l.Note.From] != '#' {
				t.Errorf("%q: %+v", s, l)
			}
			between += s[l.Rest.To:l.Note.From]
		} else {
			between += s[l.Rest.To:]
		}
		want := map[int]string{api.LineItem: "-", api.LineEntry: ":"}[l.Kind]
		if strings.ReplaceAll(between, " ", "") != want {
			t.Errorf("%q: %+v has %q between", s, l, between)
		}
		if r := s[l.Rest.From:l.Rest.To]; r != strings.Trim(r, " ") {
			t.Errorf("%q: the rest is %q", s, r)
		}
	}
}
