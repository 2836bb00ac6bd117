package yscalar_test

import (
	"slices"
	"strings"
	"testing"

	"scarf/api"
	"scarf/print"
	"scarf/quote"
	"scarf/read"
	"scarf/samples"
	"scarf/value"
	"scarf/yline"
	"scarf/yscalar"
)

func null() api.Value { return api.Value{Kind: api.KindNull} }

func num(s string) api.Value { return api.Value{Kind: api.KindNumber, Text: s} }

func truth(s string) api.Value { return api.Value{Kind: api.KindBool, Text: s} }

func arr(l ...api.Value) api.Value { return api.Value{Kind: api.KindArray, Items: l} }

func obj(key string, item api.Value) api.Value {
	return api.Value{Kind: api.KindObject, Keys: []string{key}, Items: []api.Value{item}}
}

// bare are texts that may stand without quotes, unbare ones that may not.
func bare() []string {
	return []string{"a", "-1", "a:b", "a b", "a#b", "-a", "--", "-:x", "1", "null", "~", "true", "é", "\ufffd", "a'b", "a\"b", "a[1]", "a, b", "=", "(", "a-", "a -", ".", "/", "<", "a|b", "\\n", "\u00a0", "a?", "a*&!", "x-:y", "a::b", "-#", "a##"}
}

func unbare() []string {
	l := []string{"", " ", " a", "a ", "-", "- 1", "- ", "a: b", "a:", "a #b", "a # b", "a\nb", "a\tb", "\x00", "a\x7f", "\xff", "a\xc3", "a b:", "a:: b", "x #", "-:", "- :", "a:  b", "é \xff", "a\x1fb", "x\r"}
	for _, c := range "?:,[]{}#&*!|>'\"%@`" {
		l = append(l, string(c), string(c)+"a", string(c)+" a")
	}
	return l
}

func TestBare(t *testing.T) { // P11.1
	for _, s := range bare() {
		if !yscalar.Bare(s) {
			t.Errorf("%q", s)
		}
	}
	for _, s := range unbare() {
		if yscalar.Bare(s) {
			t.Errorf("%q", s)
		}
	}
}

func TestResolve(t *testing.T) { // P11.1
	for s, want := range map[string]api.Value{
		"": null(), "null": null(), "~": null(), "true": truth("true"), "false": truth("false"), "1.0": num("1"), "-0": num("0"), "1200": num("12e2"), "1e-3": num("1e-3"), "1E5": num("1e5"),
		"Null": value.Of("Null"), "NULL": value.Of("NULL"), "True": value.Of("True"), "yes": value.Of("yes"), "01": value.Of("01"), "+1": value.Of("+1"), ".5": value.Of(".5"), "0x1": value.Of("0x1"), " ": value.Of(" "), " 1": value.Of(" 1"), "a: b": value.Of("a: b"),
		"1e1000001": value.Of("1e1000001"), strings.Repeat("1", 1001): value.Of(strings.Repeat("1", 1001)), "\xff": value.Of("\xff"), "'a'": value.Of("'a'"), "[1]": value.Of("[1]"), "~~": value.Of("~~"), "1 ": value.Of("1 "), "null ": value.Of("null "),
	} {
		if v := yscalar.Resolve(s); !samples.Same(v, want) {
			t.Errorf("%q: %v", s, v)
		}
	}
}

func TestRead(t *testing.T) { // P11.2
	for s, want := range map[string]api.Value{
		"": null(), "1.0": num("1"), "'1.0'": value.Of("1.0"), "[1, 2]": arr(num("1"), num("2")), `"a\n"`: value.Of("a\n"), "''": value.Of(""), "'it''s'": value.Of("it's"), "true": truth("true"), "~": null(), "a b": value.Of("a b"), `{"a" : 1 } `: obj("a", num("1")), "[]": arr(),
		`"# a"`: value.Of("# a"), "'a: b'": value.Of("a: b"), "-1": num("-1"),
	} {
		if v, err := yscalar.Read(s); !samples.Same(v, want) || err != api.OK {
			t.Errorf("%q: %v, %d", s, v, err)
		}
	}
	for s, want := range map[string]api.Errno{
		`"a`: api.ErrForm, `"a"b`: api.ErrForm, `"a" `: api.ErrForm, "'a": api.ErrForm, "'a'b": api.ErrForm, "'a' ": api.ErrForm, "'": api.ErrForm, "[1,]": api.ErrForm, "[a]": api.ErrForm, "{a: 1}": api.ErrForm, `{"a":1,"a":2}`: api.ErrDouble, "[1": api.ErrForm, "[1] x": api.ErrForm,
		strings.Repeat("[", 33) + strings.Repeat("]", 33): api.ErrDeep, "[" + strings.Repeat("0,", api.MaxNodes) + "0]": api.ErrMany, "[1e1000001]": api.ErrNum, "[" + strings.Repeat("1", 1001) + "]": api.ErrLong, "[" + strings.Repeat(" ", api.MaxText) + "]": api.ErrLong,
		" ": api.ErrForm, "a ": api.ErrForm, " a": api.ErrForm, "a: b": api.ErrForm, "a #b": api.ErrForm, "|": api.ErrForm, "|-": api.ErrForm, "- 1": api.ErrForm, "\xff": api.ErrForm, "a\nb": api.ErrForm, "*a": api.ErrForm, "&a": api.ErrForm, "# a": api.ErrForm, "'a\nb'": api.ErrForm, "\"a\nb\"": api.ErrForm,
	} {
		if v, err := yscalar.Read(s); !samples.Zero(v) || err != want {
			t.Errorf("%.30q: %v, %d", s, v, err)
		}
	}
	for _, s := range unbare() {
		v, err := yscalar.Read(s)
		switch {
		case s == "":
		case strings.HasPrefix(s, "'"), strings.HasPrefix(s, "\""), strings.HasPrefix(s, "["), strings.HasPrefix(s, "{"), err == api.ErrForm && samples.Zero(v):
		default:
			t.Errorf("%q: %v, %d", s, v, err)
		}
	}
}

func TestWrite(t *testing.T) { // P11.3
	for want, v := range map[string]api.Value{
		"a b": value.Of("a b"), "'1'": value.Of("1"), "'a: b'": value.Of("a: b"), `"\n"`: value.Of("\n"), "null": null(), "'null'": value.Of("null"), "'~'": value.Of("~"), "''": value.Of(""), "'true'": value.Of("true"), "true": truth("true"), "1e1": num("1e1"), "'-1.5'": value.Of("-1.5"),
		"01": value.Of("01"), "''''": value.Of("'"), "it's": value.Of("it's"), "'a #b'": value.Of("a #b"), `"a\u007f"`: value.Of("a\x7f"), `"\n \u0023 \u0023"`: value.Of("\n # #"), `"\t##"`: value.Of("\t##"), "é": value.Of("é"),
		"[]": arr(), "{}": {Kind: api.KindObject}, `["a \u0023b","\u007f",1]`: arr(value.Of("a #b"), value.Of("\x7f"), num("1")), `{"x \u0023":"#"}`: obj("x #", value.Of("#")), `'" #'`: value.Of("\" #"), `"\" \u0023\n"`: value.Of("\" #\n"), `'"'`: value.Of("\""),
		`'a '`: value.Of("a "), `'- '`: value.Of("- "), `"\u0001"`: value.Of("\x01"), `"\\u007f\u007f"`: value.Of("\\u007f\x7f"),
	} {
		if s, err := yscalar.Write(v); s != want || err != api.OK {
			t.Errorf("%v: %s, %d, not %s", v, s, err, want)
		}
	}
	for _, v := range []api.Value{{}, {Kind: api.KindHole, Text: "0"}, value.Of("\xff"), num("10"), arr(api.Value{}), {Kind: api.KindString, Text: "a", Keys: []string{"b"}}} {
		if s, err := yscalar.Write(v); s != "" || err != api.ErrArg {
			t.Errorf("%v: %q, %d", v, s, err)
		}
	}
}

func TestKeys(t *testing.T) { // P11.3
	for s, want := range map[string]string{"a": "a", "1": "1", "null": "null", `"a\n"`: "a\n", "'a: b'": "a: b", "''": "", "a b": "a b", "-1": "-1"} {
		if k, err := yscalar.Key(s); k != want || err != api.OK {
			t.Errorf("%q: %q, %d", s, k, err)
		}
	}
	for _, s := range []string{"", "a ", " a", "a: b", `"a`, `"a" `, "'a'b", "[1]", "{}", "*", "\xff", "a #b", "-"} {
		if k, err := yscalar.Key(s); k != "" || err != api.ErrForm {
			t.Errorf("%q: %q, %d", s, k, err)
		}
	}
	for s, want := range map[string]string{"a": "a", "1": "1", "null": "null", "true": "true", "": "''", "a: b": "'a: b'", "\n": `"\n"`, "\x7f": `"\u007f"`, "\n #": `"\n \u0023"`, "-": "'-'", "it's": "it's", "'": "''''", "~": "~"} {
		if k, err := yscalar.WriteKey(s); k != want || err != api.OK {
			t.Errorf("%q: %q, %d", s, k, err)
		}
	}
	for _, s := range []string{"\xff", "a\xed\xa0\x80"} {
		if k, err := yscalar.WriteKey(s); k != "" || err != api.ErrForm {
			t.Errorf("%q: %q, %d", s, k, err)
		}
	}
}

func TestWhatIsWritten(t *testing.T) { // P11.4, P11.5, P11.6
	x := samples.New(22)
	all := append(samples.Values(22, 300), null())
	for _, s := range slices.Concat(bare(), unbare()) {
		all = append(all, value.Of(s), arr(value.Of(s)))
	}
	for range 300 {
		all = append(all, value.Of(x.Word()+x.Word()), value.Of(x.Word()+" "+x.Word()))
	}
	for _, v := range all {
		if !value.Right(v) {
			continue
		}
		in := samples.Roomy(v)
		s, err := yscalar.Write(in)
		if !samples.Untouched(in, v) {
			t.Fatalf("%v was turned", v)
		}
		back, e := yscalar.Read(s)
		if !samples.Same(back, v) || err != api.OK || e != api.OK || strings.Contains(s, "\n") {
			t.Errorf("%v: %q, %v", v, s, back)
		}
		samples.Spoil(back)
		again, _ := yscalar.Read(s)
		if !samples.Same(again, v) {
			t.Errorf("%v: an answer is no new memory", v)
		}
		line := "a: " + s
		l, _, e := yline.Line(line, api.Span{From: 0, To: len(line)})
		if e != api.OK || l.Kind != api.LineEntry || l.Rest != (api.Span{From: 3, To: len(line)}) || l.Note != (api.Span{}) || l.Key != (api.Span{From: 0, To: 1}) {
			t.Errorf("%q: %+v, %d", line, l, e)
		}
		if v.Kind != api.KindString {
			continue
		}
		k, err := yscalar.WriteKey(v.Text)
		key, e := yscalar.Key(k)
		if key != v.Text || err != api.OK || e != api.OK || strings.Contains(k, "\n") {
			t.Errorf("%q: %q, %q", v.Text, k, key)
		}
		line = k + ": 1"
		l, _, e = yline.Line(line, api.Span{From: 0, To: len(line)})
		if e != api.OK || l.Kind != api.LineEntry || l.Key != (api.Span{From: 0, To: len(k)}) || l.Note != (api.Span{}) {
			t.Errorf("%q: %+v, %d", line, l, e)
		}
	}
}

func TestLongTexts(t *testing.T) { // P11.2, P11.3
	long := strings.Repeat("a ", api.MaxText) + "\n"
	s, err := yscalar.Write(value.Of(long))
	q, _ := quote.Quote(long)
	if v, e := yscalar.Read(s); s != q || err != api.OK || e != api.OK || v.Text != long {
		t.Errorf("%d, %d", err, e)
	}
	c, _ := print.Compact(arr(value.Of(long)))
	_, _, want := read.Read(c)
	if _, e := yscalar.Read(c); e != want || want != api.ErrLong {
		t.Errorf("%d, %d", e, want)
	}
}
