package runes_test

import (
	"math/rand"
	"strings"
	"testing"
	"unicode/utf8"

	"scarf/api"
	"scarf/runes"
)

// texts are ordinary ones, the edges, and ones that are no UTF-8.
func texts() []string {
	l := []string{
		"", "a", "\n", "\n\n", "a\n", "\na", "aé\nb", "aé\nb\n", "\ufffd", "a\ufffdb\n\ufffd", "\U0001f600x\n\U0010ffff",
		"\xff", "a\xffb", "\xc3", "\xc3\n\xa9", "\xe2\x82", "\xf0\x9f\x98", "\xc0\x80", "\xed\xa0\x80", "\xf4\x90\x80\x80", "é\xed\xbf\xbf\né",
		"\r\n\r", "\x00\n\x00", "\u2028\n",
	}
	r := rand.New(rand.NewSource(1))
	parts := []string{"a", "é", "€", "\U0001f600", "\n", "\xff", "\xc3", "\xe2\x82", "\ufffd", "\xa9"}
	for range 200 {
		var b strings.Builder
		for range r.Intn(9) {
			b.WriteString(parts[r.Intn(len(parts))])
		}
		l = append(l, b.String())
	}
	return l
}

// width is how many bytes the rune at a byte has: by the shortest form of each number.
func width(s string, at int) (rune, int) {
	for n := 1; n <= 4 && at+n <= len(s); n++ {
		l := []rune(s[at : at+n])
		if len(l) == 1 && string(l) == s[at:at+n] {
			return l[0], n
		}
	}
	return 0xfffd, 1
}

func TestValid(t *testing.T) { // P1.1
	for _, s := range texts() {
		want, is := len(s), true
		for at := 0; at < len(s); {
			c, n := width(s, at)
			if c == 0xfffd && n == 1 {
				want, is = at, false
				break
			}
			at += n
		}
		if n, ok := runes.Valid(s); n != want || ok != is || ok != utf8.ValidString(s) {
			t.Errorf("%q: %d, %v, not %d, %v", s, n, ok, want, is)
		}
	}
	for s, want := range map[string]int{"a\xffb": 1, "\xc0\x80": 0, "é\xed\xa0\x80": 2, "a\xf4\x90\x80\x80": 1, "\xe2\x82": 0} {
		if n, ok := runes.Valid(s); n != want || ok {
			t.Errorf("%q: %d, %v", s, n, ok)
		}
	}
	for s, want := range map[string]int{"": 0, "aé": 3, "\ufffd": 3, "\U0010ffff": 4, "\x00": 1} {
		if n, ok := runes.Valid(s); n != want || !ok {
			t.Errorf("%q: %d, %v", s, n, ok)
		}
	}
}

func TestNext(t *testing.T) { // P1.1
	for _, s := range texts() {
		for at := range len(s) {
			c, n := runes.Next(s, at)
			if want, m := width(s, at); c != want || n != m {
				t.Errorf("%q at %d: %x, %d, not %x, %d", s, at, c, n, want, m)
			}
		}
		for _, at := range []int{-1, api.MinInt, len(s), len(s) + 1, api.MaxInt} {
			if c, n := runes.Next(s, at); c != 0 || n != 0 {
				t.Errorf("%q at %d: %x, %d", s, at, c, n)
			}
		}
	}
	if c, n := runes.Next("aé", 2); c != 0xfffd || n != 1 {
		t.Errorf("within a rune: %x, %d", c, n)
	}
}

func TestLines(t *testing.T) { // P1.2, P1.4, P1.5
	for s, want := range map[string][]api.Span{
		"":         {{}},
		"a":        {{From: 0, To: 1}},
		"\n":       {{From: 0, To: 1}, {From: 1, To: 1}},
		"a\n\nb":   {{From: 0, To: 2}, {From: 2, To: 3}, {From: 3, To: 4}},
		"a\r\nb\n": {{From: 0, To: 3}, {From: 3, To: 5}, {From: 5, To: 5}},
	} {
		got := runes.Lines(s)
		if len(got) != len(want) {
			t.Errorf("%q: %v", s, got)
			continue
		}
		for i := range want {
			if got[i] != want[i] {
				t.Errorf("%q: %v", s, got)
			}
		}
	}
	for _, s := range texts() {
		all := ""
		lines := runes.Lines(s)
		for i, l := range lines {
			one := s[l.From:l.To]
			if last := i == len(lines)-1; strings.Count(one, "\n") > 1 || strings.HasSuffix(one, "\n") == last || strings.Contains(strings.TrimSuffix(one, "\n"), "\n") {
				t.Errorf("%q: line %d is %q", s, i, one)
			}
			all += one
		}
		if all != s || len(lines) != strings.Count(s, "\n")+1 {
			t.Errorf("%q: %v", s, lines)
		}
	}
	a := runes.Lines("a\nb")
	a[0].To = 9
	if b := runes.Lines("a\nb"); b[0].To != 2 {
		t.Error("an answer is no new memory")
	}
}

// place goes over the runes one by one.
func place(s string, at int) (int, int) {
	line, column := 1, 1
	for i := 0; i < len(s); {
		c, n := width(s, i)
		if i+n > at {
			break
		}
		i += n
		column++
		if c == '\n' {
			line, column = line+1, 1
		}
	}
	return line, column
}

func TestPlace(t *testing.T) { // P1.3
	for at, want := range map[int][2]int{0: {1, 1}, 1: {1, 2}, 2: {1, 2}, 3: {1, 3}, 4: {2, 1}, 5: {2, 2}} {
		if l, c, ok := runes.Place("aé\nb", at); l != want[0] || c != want[1] || !ok {
			t.Errorf("byte %d: %d, %d, %v", at, l, c, ok)
		}
	}
	for _, s := range texts() {
		for at := 0; at <= len(s); at++ {
			line, column := place(s, at)
			if l, c, ok := runes.Place(s, at); l != line || c != column || !ok {
				t.Errorf("%q at %d: %d, %d, %v, not %d, %d", s, at, l, c, ok, line, column)
			}
		}
		for _, at := range []int{-1, api.MinInt, len(s) + 1, api.MaxInt} {
			if l, c, ok := runes.Place(s, at); l != 0 || c != 0 || ok {
				t.Errorf("%q at %d: %d, %d, %v", s, at, l, c, ok)
			}
		}
	}
}

func TestAt(t *testing.T) { // P1.3
	for _, c := range []struct {
		s            string
		line, column int
		at           int
		is           bool
	}{
		{"aé\nb", 2, 2, 5, true}, {"aé\nb", 1, 3, 3, true}, {"aé\nb", 1, 4, 4, true}, {"aé\nb", 1, 5, 0, false},
		{"aé\nb", 2, 3, 0, false}, {"", 1, 1, 0, true}, {"", 1, 2, 0, false}, {"\n", 2, 1, 1, true}, {"\n", 1, 2, 1, true},
		{"a", 0, 1, 0, false}, {"a", 2, 1, 0, false}, {"a", 1, 0, 0, false}, {"a", -1, 1, 0, false}, {"a", 1, -1, 0, false},
		{"a", api.MaxInt, 1, 0, false}, {"a", 1, api.MaxInt, 0, false}, {"a", api.MinInt, api.MinInt, 0, false},
		{"\xff\xffa", 1, 3, 2, true},
	} {
		if at, is := runes.At(c.s, c.line, c.column); at != c.at || is != c.is {
			t.Errorf("%q, %d, %d: %d, %v", c.s, c.line, c.column, at, is)
		}
	}
}

func TestThereAndBack(t *testing.T) { // P1.6
	for _, s := range texts() {
		for at := 0; at < len(s); {
			line, column, _ := runes.Place(s, at)
			if back, ok := runes.At(s, line, column); back != at || !ok {
				t.Errorf("%q at %d: line %d, column %d is %d, %v", s, at, line, column, back, ok)
			}
			_, n := width(s, at)
			at += n
		}
		for i, l := range runes.Lines(s) {
			one := s[l.From:l.To]
			n := 0
			for k := 0; k < len(one); n++ {
				_, w := width(one, k)
				k += w
			}
			for column := 1; column <= n; column++ {
				at, ok := runes.At(s, i+1, column)
				if a, b, is := runes.Place(s, at); a != i+1 || b != column || !ok || !is {
					t.Errorf("%q, %d, %d: %d", s, i+1, column, at)
				}
			}
			if at, ok := runes.At(s, i+1, n+1); at != l.To || !ok {
				t.Errorf("%q: line %d ends at %d, %v", s, i+1, at, ok)
			}
			if _, ok := runes.At(s, i+1, n+2); ok {
				t.Errorf("%q: line %d has a column too many", s, i+1)
			}
		}
	}
}
