package order_test

import (
	"math/rand"
	"slices"
	"strconv"
	"strings"
	"testing"

	"scarf/api"
	"scarf/order"
)

// row is one of a text's names.
func row(s string) []string { return strings.Fields(s) }

// many are so many names.
func many(n int) []string {
	var l []string
	for i := range n {
		l = append(l, strconv.Itoa(1000+i))
	}
	return l
}

func TestOnce(t *testing.T) { // P23.1
	for _, l := range [][]string{nil, {}, {""}, row("a b c"), {"\xff", "\xfe"}, many(4 * api.MaxRow)} {
		if !order.Once(l) {
			t.Errorf("%q", l)
		}
	}
	for _, l := range [][]string{row("a a"), row("a b a"), {"", ""}, many(4*api.MaxRow + 1)} {
		if order.Once(l) {
			t.Errorf("%q", l)
		}
	}
}

// say is what a row says of two names: "<", ">" or nothing.
func say(l []string, x, y string) string {
	i, j := slices.Index(l, x), slices.Index(l, y)
	switch {
	case i < 0 || j < 0:
		return ""
	case i < j:
		return "<"
	}
	return ">"
}

// told tells which one stands ahead, as the document does.
func told(base, left, right []string, x, y string) (int, bool) {
	b, l, r := say(base, x, y), say(left, x, y), say(right, x, y)
	sign := map[string]int{"": 0, "<": -1, ">": 1}
	if b != "" {
		if l != "" && l != b {
			return sign[l], true
		}
		if r != "" && r != b {
			return sign[r], true
		}
		return sign[b], true
	}
	switch {
	case l == r:
		return sign[l], true
	case l == "":
		return sign[r], true
	case r == "":
		return sign[l], true
	}
	return 0, false
}

func TestAhead(t *testing.T) { // P23.1
	for _, c := range []struct {
		base, left, right string
		n                 int
		ok                bool
	}{
		{"", "", "", 0, true}, {"x y", "", "", -1, true}, {"y x", "", "", 1, true}, {"x y", "y x", "", 1, true}, {"x y", "", "y x", 1, true}, {"x y", "x y", "y x", 1, true}, {"x y", "y x", "y x", 1, true}, {"x y", "x", "y", -1, true}, {"x", "x y", "", -1, true}, {"x", "", "y x", 1, true}, {"", "x y", "x y", -1, true}, {"", "x y", "y x", 0, false}, {"y", "y x", "x y", 0, false}, {"", "x", "y", 0, true}, {"x a y", "a", "a", -1, true},
		{"a a", "x y", "x y", 0, false}, {"", "x y x", "", 0, false}, {"", "x y", "b b", 0, false},
	} {
		base, left, right := row(c.base), row(c.left), row(c.right)
		if n, ok := order.Ahead(base, left, right, "x", "y"); n != c.n || ok != c.ok {
			t.Errorf("%v: %d, %v", c, n, ok)
		}
		if n, ok := order.Ahead(base, left, right, "y", "x"); n != -c.n || ok != c.ok {
			t.Errorf("%v turned: %d, %v", c, n, ok)
		}
		if n, ok := order.Ahead(base, left, right, "x", "x"); n != 0 || ok {
			t.Errorf("%v of one name: %d, %v", c, n, ok)
		}
	}
	for i := range 3 {
		rows := [][]string{{"x", "y"}, {"x", "y"}, {"x", "y"}}
		rows[i] = many(257)
		if n, ok := order.Ahead(rows[0], rows[1], rows[2], "x", "y"); n != 0 || ok {
			t.Errorf("row %d too long: %d, %v", i, n, ok)
		}
	}
}

// merged merges orders, as the document does.
func merged(base, left, right, names []string) ([]string, bool) {
	for _, x := range names {
		for _, y := range names {
			if _, ok := told(base, left, right, x, y); x != y && !ok {
				return nil, false
			}
		}
	}
	rest := slices.Clone(names)
	var got []string
	for len(rest) > 0 {
		next := ""
		found := false
		for _, x := range rest {
			free := true
			for _, y := range rest {
				if n, _ := told(base, left, right, y, x); x != y && n == -1 {
					free = false
				}
			}
			if free && (!found || x < next) {
				next, found = x, true
			}
		}
		if !found {
			return nil, false
		}
		got = append(got, next)
		rest = slices.DeleteFunc(rest, func(s string) bool { return s == next })
	}
	return got, true
}

func TestMerge(t *testing.T) { // P23.2
	for _, c := range []struct {
		base, left, right, names, want string
		ok                             bool
	}{
		{"a b c", "b a c", "a b c d", "a b c d", "b a c d", true}, {"", "x", "y", "x y", "x y", true}, {"", "x y", "y x", "x y", "", false}, {"", "x y", "y x", "x", "x", true}, {"", "x y", "y x", "", "", true}, {"c b a", "", "", "a b c", "c b a", true}, {"", "", "", "c b a", "a b c", true}, {"", "", "", "b B a", "B a b", true},
		{"", "x z", "y x", "x y z", "y x z", true}, {"", "x y", "y z", "x y z", "x y z", true}, {"", "a b", "b c", "c a", "a c", true}, {"x y z", "y x z", "x z y", "x y z", "", false}, {"a b c", "b c a", "c a b", "a b c", "c b a", true}, {"a b", "b a", "b a", "a b", "b a", true}, {"", "b", "a", "b a d", "a b d", true}, {"a", "b a", "a c", "c b a", "b a c", true},
		{"a a", "", "", "a", "", false}, {"", "a a", "", "a", "", false}, {"", "", "a a", "a", "", false}, {"", "", "", "a a", "", false},
	} {
		if got, is := order.Merge(row(c.base), row(c.left), row(c.right), row(c.names)); !slices.Equal(got, row(c.want)) || is != c.ok {
			t.Errorf("%v: %q, %v", c, got, is)
		}
	}
	for i := range 4 {
		rows := [][]string{nil, nil, nil, {"a"}}
		rows[i] = many(257)
		if got, ok := order.Merge(rows[0], rows[1], rows[2], rows[3]); got != nil || ok {
			t.Errorf("row %d too long: %q", i, got)
		}
		rows[i] = many(256)
		if got, ok := order.Merge(rows[0], rows[1], rows[2], rows[3]); len(got) == 0 || !ok {
			t.Errorf("row %d as long as may be: %q", i, got)
		}
	}
	// Three that wait for one another: each order alone is right, together they go round.
	if got, ok := order.Merge(nil, row("a b"), row("b c"), row("a b c")); !ok || !slices.Equal(got, row("a b c")) {
		t.Errorf("%q, %v", got, ok)
	}
	if got, ok := order.Merge(row("c a"), row("a b"), row("b c"), row("a b c")); got != nil || ok {
		t.Errorf("a ring: %q", got)
	}
}

func TestLaws(t *testing.T) { // P23.3, P23.4, P23.5
	r := rand.New(rand.NewSource(44))
	some := func() []string {
		l := row("a b c d e")
		r.Shuffle(len(l), func(i, j int) { l[i], l[j] = l[j], l[i] })
		return l[:r.Intn(len(l)+1)]
	}
	for range 5000 {
		base, left, right, names := some(), some(), some(), some()
		keep := slices.Concat(base, left, right, names)
		want, is := merged(base, left, right, names)
		got, ok := order.Merge(base, left, right, names)
		if !slices.Equal(got, want) || ok != is {
			t.Fatalf("%q, %q, %q, %q: %q, %v, not %q, %v", base, left, right, names, got, ok, want, is)
		}
		back, ok2 := order.Merge(base, right, left, names)
		if !slices.Equal(got, back) || ok != ok2 {
			t.Errorf("%q, %q, %q, %q: turned round %q", base, left, right, names, back)
		}
		for i, x := range got {
			for _, y := range got[i+1:] {
				if n, _ := order.Ahead(base, left, right, x, y); n == 1 || x == y {
					t.Errorf("%q, %q, %q, %q: %q", base, left, right, names, got)
				}
			}
		}
		for _, x := range row("a b c d e f") {
			for _, y := range row("a b c d e f") {
				n, ok := order.Ahead(base, left, right, x, y)
				m, is := told(base, left, right, x, y)
				if x != y && (n != m || ok != is) {
					t.Errorf("%q, %q, %q: %s, %s: %d, %v", base, left, right, x, y, n, ok)
				}
			}
		}
		if got, ok := order.Merge(left, left, right, right); !ok || !slices.Equal(got, right) {
			t.Errorf("over %q, %q: %q, %v", left, right, got, ok)
		}
		for i := range got {
			got[i] = "spoilt"
		}
		if !slices.Equal(slices.Concat(base, left, right, names), keep) {
			t.Error("an answer is no new memory")
		}
	}
}
