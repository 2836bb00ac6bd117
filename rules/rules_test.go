package rules_test

import (
	"slices"
	"strings"
	"testing"

	"scarf/api"
	"scarf/pointer"
	"scarf/rules"
	"scarf/samples"
)

// path is that of a text.
func path(t *testing.T, s string) []string {
	t.Helper()
	p, err := pointer.Parse(s)
	if err != api.OK {
		t.Fatalf("%q: %d", s, err)
	}
	return p
}

// equal holds rules against each other.
func equal(a, b []api.Rule) bool {
	return slices.EqualFunc(a, b, func(x, y api.Rule) bool { return x.Key == y.Key && slices.Equal(x.Pattern, y.Pattern) })
}

// many are so many rules.
func many(n int) []api.Rule {
	var l []api.Rule
	for range n {
		l = append(l, api.Rule{Pattern: []string{"**"}, Key: "id"})
	}
	return l
}

func TestRight(t *testing.T) { // P18.1
	long := slices.Repeat([]string{"a"}, api.MaxPath)
	for _, l := range [][]api.Rule{nil, {}, {{}}, many(api.MaxRules), {{Pattern: long, Key: "é"}}, {{Pattern: []string{"**", "*", ""}}}, {{Key: "a"}, {Key: "a"}}} {
		if !rules.Right(l) {
			t.Errorf("%v", l)
		}
	}
	for _, l := range [][]api.Rule{many(api.MaxRules + 1), {{Pattern: append(long, "a")}}, {{Key: "\xff"}}, {{Pattern: []string{"\xc3"}}}, {{}, {Key: "a\xff"}}} {
		s, err := rules.Print(l)
		if rules.Right(l) || s != "" || err != api.ErrArg {
			t.Errorf("%v: %q, %d", l, s, err)
		}
	}
}

// match tells it in a plain way.
func match(pattern, path []string) bool {
	if len(pattern) == 0 {
		return len(path) == 0
	}
	if pattern[0] == "**" {
		return match(pattern[1:], path) || len(path) > 0 && match(pattern, path[1:])
	}
	return len(path) > 0 && (pattern[0] == "*" || pattern[0] == path[0]) && match(pattern[1:], path[1:])
}

func TestMatch(t *testing.T) { // P18.1
	for _, c := range []struct {
		pattern, path string
		is            bool
	}{
		{"/a/*/b", "/a/1/b", true}, {"/a/**", "/a", true}, {"/*", "", false}, {"", "", true}, {"", "/a", false}, {"/a", "/a", true}, {"/a", "/b", false}, {"/a", "/a/a", false}, {"/a/b", "/a", false}, {"/**", "", true}, {"/**", "/a/b/c", true}, {"/**/c", "/a/b/c", true}, {"/**/c", "/c", true}, {"/**/c", "/c/d", false},
		{"/**/a/**", "/x/a/y", true}, {"/**/**", "", true}, {"/**/*", "", false}, {"/**/*", "/a/b", true}, {"/*/**", "/a", true}, {"/a/**/b", "/a/b", true}, {"/a/**/b", "/a/b/c/b", true}, {"/a/**/b", "/a/b/c", false}, {"/***", "/a", false}, {"/***", "/***", true}, {"/a*", "/ab", false}, {"/*", "/", true}, {"/*/*", "/a", false}, {"/", "/a", false}, {"/A", "/a", false},
	} {
		if got := rules.Match(path(t, c.pattern), path(t, c.path)); got != c.is {
			t.Errorf("%q, %q: %v", c.pattern, c.path, got)
		}
	}
	x := samples.New(36)
	row := func(words ...string) []string {
		var l []string
		for range x.Under(6) {
			l = append(l, words[x.Under(len(words))])
		}
		return l
	}
	for range 5000 {
		p, q := row("a", "b", "*", "**", "**"), row("a", "b", "*")
		if got := rules.Match(p, q); got != match(p, q) {
			t.Errorf("%q, %q: %v", p, q, got)
		}
	}
	a := func(n int) []string { return slices.Repeat([]string{"a"}, n) }
	any := func(n int) []string { return slices.Repeat([]string{"**"}, n) }
	if !rules.Match(a(200), a(200)) || rules.Match(a(201), a(201)) || !rules.Match(any(200), a(200)) || rules.Match(any(201), a(1)) || rules.Match(any(1), a(201)) || rules.Match(append(any(150), "b"), a(200)) || !rules.Match([]string{"\xff"}, []string{"\xff"}) {
		t.Error("rows of any steps")
	}
}

func TestFind(t *testing.T) { // P18.1
	l := []api.Rule{{Pattern: []string{"a", "*"}, Key: "first"}, {Pattern: []string{"a", "b"}, Key: "second"}, {Pattern: []string{"c", "**"}, Key: ""}, {Pattern: []string{"c"}, Key: "last"}}
	for p, want := range map[string]string{"/a/b": "first", "/a/c": "first", "/c": "", "/c/d": ""} {
		if key, ok := rules.Find(l, path(t, p)); key != want || !ok {
			t.Errorf("%s: %q, %v", p, key, ok)
		}
	}
	for _, p := range []string{"", "/a", "/a/b/c", "/b"} {
		if key, ok := rules.Find(l, path(t, p)); key != "" || ok {
			t.Errorf("%s: %q, %v", p, key, ok)
		}
	}
	if key, ok := rules.Find(many(50), nil); key != "id" || !ok {
		t.Errorf("%q, %v", key, ok)
	}
}

func TestPrintAndParse(t *testing.T) { // P18.2, P18.4
	for _, c := range []struct {
		s string
		l []api.Rule
	}{
		{"", nil}, {"\"/a/*\" \"id\"\n", []api.Rule{{Pattern: []string{"a", "*"}, Key: "id"}}}, {"\"\" \"\"\n", []api.Rule{{}}}, {"\"/a~1b/~0\\n\" \"\\\"é\"\n\"/\" \"x y\"\n", []api.Rule{{Pattern: []string{"a/b", "~\n"}, Key: "\"é"}, {Pattern: []string{""}, Key: "x y"}}},
		{strings.Repeat("\"/**\" \"id\"\n", api.MaxRules), many(api.MaxRules)},
	} {
		if s, err := rules.Print(c.l); s != c.s || err != api.OK {
			t.Errorf("%v: %q, %d", c.l, s, err)
		}
		if l, n, err := rules.Parse(c.s); !equal(l, c.l) || n != len(c.l) || err != api.OK {
			t.Errorf("%q: %v, %d, %d", c.s, l, n, err)
		}
	}
	good := "\"/a\" \"b\"\n"
	for s, want := range map[string]int{
		"x": 0, "\n": 0, good + "\n": 1, good + "x": 1, "\"/a\" \"b\"": 0, good + "\"/a\" \"b\"": 1, "\"/a\"  \"b\"\n": 0, " \"/a\" \"b\"\n": 0, "\"/a\" \"b\" \n": 0, "\"/a\"\"b\"\n": 0, "\"/a\" \"b\"\r\n": 0, "\"a\" \"b\"\n": 0, "\"/~2\" \"b\"\n": 0, "\"/\\u0061\" \"b\"\n": 0, "\"/a\" \"\\u0062\"\n": 0,
		good + good + "\"/a\" b\n" + "x": 2, "\"/a\" \"b\n": 0, "\"/a\" \"b\" \"c\"\n": 0, "\"/a\"\n": 0, "\"/a\" \n": 0, "\"/a\" \"b\xff\"\n": 0, "\"/\xff\" \"b\"\n": 0, "\"" + strings.Repeat("/a", 65) + "\" \"b\"\n": 0, "\"/a\" \"\\/\"\n": 0, "\"/a\"\n\"b\"\n": 0, "\"/a\" \n\"b\"\n": 0, " ": 0, good + " ": 1,
		strings.Repeat(good, 31) + "\n" + good: 31,
	} {
		if l, n, err := rules.Parse(s); l != nil || n != want || err != api.ErrForm {
			t.Errorf("%q: %v, %d, %d", s, l, n, err)
		}
	}
	for _, s := range []string{"x", good, "\n", " "} {
		if l, n, err := rules.Parse(strings.Repeat(good, api.MaxRules) + s); l != nil || n != api.MaxRules || err != api.ErrLong {
			t.Errorf("%q: %v, %d, %d", s, l, n, err)
		}
	}
}

func TestRulesAndTexts(t *testing.T) { // P18.3, P18.4, P18.5
	x := samples.New(37)
	row := func() []string {
		var l []string
		for range x.Under(4) {
			l = append(l, x.Word())
		}
		return l
	}
	for range 1000 {
		var l []api.Rule
		for range x.Under(5) {
			l = append(l, api.Rule{Pattern: row(), Key: x.Word()})
		}
		s, err := rules.Print(l)
		back, n, e := rules.Parse(s)
		if !equal(back, l) || n != len(l) || err != api.OK || e != api.OK {
			t.Errorf("%v: %q, %v", l, s, back)
		}
		for i := range back {
			_ = append(back[i].Pattern, "spoilt")
			for j := range back[i].Pattern {
				back[i].Pattern[j] = "spoilt"
			}
		}
		if again, _, _ := rules.Parse(s); !equal(again, l) {
			t.Error("an answer is no new memory")
		}
		p, q := row(), row()
		plain := !slices.Contains(p, "*") && !slices.Contains(p, "**")
		if plain && (rules.Match(p, q) != slices.Equal(p, q) || !rules.Match(p, p)) || !rules.Match([]string{"**"}, p) {
			t.Errorf("%q, %q", p, q)
		}
		u, w := row(), row()
		if rules.Match(p, u) && rules.Match(q, w) && !rules.Match(slices.Concat(p, q), slices.Concat(u, w)) {
			t.Errorf("%q, %q and %q, %q", p, u, q, w)
		}
	}
}
