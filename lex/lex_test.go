package lex_test

import (
	"math/rand"
	"slices"
	"strings"
	"testing"

	"scarf/api"
	"scarf/lex"
)

// tok is a token written short.
func tok(kind, from, to int) api.Token {
	return api.Token{Kind: kind, Span: api.Span{From: from, To: to}}
}

func TestTokens(t *testing.T) { // P4.1
	for s, want := range map[string][]api.Token{
		"": nil,
		`{"a" : 1}`: {
			tok(api.TokOpen, 0, 1), tok(api.TokString, 1, 4), tok(api.TokBlank, 4, 5), tok(api.TokColon, 5, 6), tok(api.TokBlank, 6, 7), tok(api.TokNumber, 7, 8), tok(api.TokClose, 8, 9),
		},
		"[true,false,null]": {
			tok(api.TokBegin, 0, 1), tok(api.TokTrue, 1, 5), tok(api.TokComma, 5, 6), tok(api.TokFalse, 6, 11), tok(api.TokComma, 11, 12), tok(api.TokNull, 12, 16), tok(api.TokEnd, 16, 17),
		},
		" \t\r\n\n-1.5e+3\"\"": {tok(api.TokBlank, 0, 5), tok(api.TokNumber, 5, 12), tok(api.TokString, 12, 14)},
		`"\"]"1E5`:             {tok(api.TokString, 0, 5), tok(api.TokNumber, 5, 8)},
		"}]:0":                 {tok(api.TokClose, 0, 1), tok(api.TokEnd, 1, 2), tok(api.TokColon, 2, 3), tok(api.TokNumber, 3, 4)},
		"true false":           {tok(api.TokTrue, 0, 4), tok(api.TokBlank, 4, 5), tok(api.TokFalse, 5, 10)},
		"null1":                {tok(api.TokNull, 0, 4), tok(api.TokNumber, 4, 5)},
	} {
		if got, n, err := lex.Tokens(s); !slices.Equal(got, want) || n != len(s) || err != api.OK {
			t.Errorf("%q: %v, %d, %d", s, got, n, err)
		}
	}
}

// wrong are texts of which an error is told.
var wrong = []struct {
	s   string
	at  int
	err api.Errno
}{
	{"[1,x]", 3, api.ErrForm}, {"01", 0, api.ErrForm}, {"[truex]", 1, api.ErrForm}, {"True", 0, api.ErrForm}, {"nul", 0, api.ErrForm}, {"nullnull", 0, api.ErrForm}, {"trueE", 4, api.ErrForm},
	{"[+1]", 1, api.ErrForm}, {".5", 0, api.ErrForm}, {"1 1-2", 2, api.ErrForm}, {"[1.]", 1, api.ErrForm}, {"-", 0, api.ErrForm}, {"1e5e5", 0, api.ErrForm}, {"1,2e", 2, api.ErrForm},
	{"[\"a\nb\"]", 3, api.ErrForm}, {`["a`, 3, api.ErrForm}, {`["a\x"]`, 3, api.ErrForm}, {`"\ud800"`, 1, api.ErrForm}, {"\"\xff\"", 1, api.ErrForm},
	{"\v", 0, api.ErrForm}, {"1\x00", 1, api.ErrForm}, {"\ufeff1", 0, api.ErrForm}, {"1\u00a0", 1, api.ErrForm}, {"\xff", 0, api.ErrForm}, {"é", 0, api.ErrForm}, {"/**/", 0, api.ErrForm}, {"'a'", 0, api.ErrForm},
	{" " + strings.Repeat("9", api.MaxDigits+1), 1, api.ErrLong}, {"[1e9999999999]", 1, api.ErrNum}, {"1e1000001", 0, api.ErrNum}, {"[1e9999999999,x]", 1, api.ErrNum}, {"[x,1e9999999999]", 1, api.ErrForm},
	{strings.Repeat(" ", api.MaxText+1), 0, api.ErrLong}, {strings.Repeat("x", api.MaxText+1), 0, api.ErrLong},
}

func TestTokensWrong(t *testing.T) { // P4.1
	for _, c := range wrong {
		if l, at, err := lex.Tokens(c.s); l != nil || at != c.at || err != c.err {
			t.Errorf("%.20q: %v, %d, %d", c.s, l, at, err)
		}
	}
	s := strings.Repeat(" ", api.MaxText)
	if l, at, err := lex.Tokens(s); len(l) != 1 || at != len(s) || err != api.OK {
		t.Errorf("the longest text: %d, %d", at, err)
	}
	if _, at, err := lex.Tokens("[" + strings.Repeat("9", api.MaxDigits) + "]"); at != api.MaxDigits+2 || err != api.OK {
		t.Errorf("the longest number: %d, %d", at, err)
	}
}

func TestAll(t *testing.T) { // P4.2
	for _, s := range []string{"", `{"a" : 1}`, "[1, 2 ,3]"} {
		want, _, _ := lex.Tokens(s)
		all := lex.All(s)
		for range 2 {
			var got []api.Token
			for x, err := range all {
				if err != api.OK {
					t.Errorf("%q: %d", s, err)
				}
				got = append(got, x)
			}
			if !slices.Equal(got, want) {
				t.Errorf("%q: %v", s, got)
			}
		}
	}
	for _, c := range wrong {
		var got []api.Token
		last := api.OK
		for x, err := range lex.All(c.s) {
			if last != api.OK {
				t.Errorf("%.20q: something behind the error", c.s)
			}
			got, last = append(got, x), err
		}
		if n := len(got) - 1; n < 0 || last != c.err || got[n] != tok(0, c.at, c.at) {
			t.Errorf("%.20q: %v, %d", c.s, got, last)
		}
	}
	var got []api.Token
	for x, err := range lex.All("[1,x]") {
		got = append(got, x)
		if len(got) < 4 && err != api.OK || len(got) == 4 && err != api.ErrForm {
			t.Errorf("%d: %d", len(got), err)
		}
	}
	if !slices.Equal(got, []api.Token{tok(api.TokBegin, 0, 1), tok(api.TokNumber, 1, 2), tok(api.TokComma, 2, 3), tok(0, 3, 3)}) {
		t.Errorf("%v", got)
	}
	for _, s := range []string{"[1,2]", "x", "1 x"} {
		for stop := 1; stop <= 3; stop++ {
			n := 0
			for range lex.All(s) {
				n++
				if n == stop {
					break
				}
			}
			if n > stop {
				t.Errorf("%q goes on behind %d", s, stop)
			}
		}
	}
}

func TestText(t *testing.T) { // P4.3
	for span, want := range map[api.Span]string{{From: 0, To: 0}: "", {From: 0, To: 3}: "abc", {From: 1, To: 2}: "b", {From: 3, To: 3}: ""} {
		if s, ok := lex.Text("abc", api.Token{Span: span}); s != want || !ok {
			t.Errorf("%v: %q, %v", span, s, ok)
		}
	}
	for _, span := range []api.Span{{From: -1, To: 2}, {From: 2, To: 1}, {From: 0, To: 4}, {From: 4, To: 4}, {From: api.MinInt, To: api.MaxInt}, {From: 3, To: 2}, {From: api.MaxInt, To: api.MaxInt}} {
		if s, ok := lex.Text("abc", api.Token{Kind: api.TokNull, Span: span}); s != "" || ok {
			t.Errorf("%v: %q, %v", span, s, ok)
		}
	}
}

func TestNothingLost(t *testing.T) { // P4.4, P4.5, P4.6
	r := rand.New(rand.NewSource(4))
	parts := []string{"{", "}", "[", "]", ",", ":", " ", "\t\n", "\r", `"a"`, `"\u0061 ]"`, "0", "-1.5e3", "true", "false", "null"}
	for range 500 {
		var b strings.Builder
		for range r.Intn(12) {
			b.WriteString(parts[r.Intn(len(parts))])
		}
		s := b.String()
		l, n, err := lex.Tokens(s)
		if err != api.OK {
			continue
		}
		at := 0
		for i, x := range l {
			if x.Span.From != at || x.Span.To <= at || i > 0 && x.Kind == api.TokBlank && l[i-1].Kind == api.TokBlank {
				t.Errorf("%q: %v", s, l)
			}
			at = x.Span.To
			text, ok := lex.Text(s, x)
			one, m, err := lex.Tokens(text)
			if !ok || len(one) != 1 || one[0] != tok(x.Kind, 0, len(text)) || m != len(text) || err != api.OK {
				t.Errorf("%q: %q is %v, %d", s, text, one, err)
			}
		}
		if at != len(s) || n != len(s) {
			t.Errorf("%q: %v", s, l)
		}
		if len(l) > 0 {
			l[0].Kind = -1
			if m, _, _ := lex.Tokens(s); m[0].Kind == -1 {
				t.Error("an answer is no new memory")
			}
		}
	}
}
