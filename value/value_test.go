package value_test

import (
	"math/big"
	"slices"
	"strings"
	"testing"

	"scarf/api"
	"scarf/samples"
	"scarf/value"
)

func null() api.Value              { return api.Value{Kind: api.KindNull} }
func num(s string) api.Value       { return api.Value{Kind: api.KindNumber, Text: s} }
func str(s string) api.Value       { return api.Value{Kind: api.KindString, Text: s} }
func hole(s string) api.Value      { return api.Value{Kind: api.KindHole, Text: s} }
func arr(l ...api.Value) api.Value { return api.Value{Kind: api.KindArray, Items: l} }

// obj is an object of members' keys, with nulls, or of one key and its item.
func obj(keys ...string) api.Value {
	v := api.Value{Kind: api.KindObject, Keys: keys}
	for range keys {
		v.Items = append(v.Items, null())
	}
	return v
}

func member(key string, item api.Value) api.Value {
	return api.Value{Kind: api.KindObject, Keys: []string{key}, Items: []api.Value{item}}
}

// deep is a tree of a depth around one.
func deep(n int, v api.Value) api.Value {
	for range n {
		v = arr(v)
	}
	return v
}

// wide is an array of so many nodes in all.
func wide(n int) api.Value {
	v := arr()
	for range n - 1 {
		v.Items = append(v.Items, null())
	}
	return v
}

// right are values, open trees with holes, and trees that are neither.
func right() []api.Value {
	return append(samples.Values(7, 300),
		null(), api.Value{Kind: api.KindBool, Text: "true"}, api.Value{Kind: api.KindBool, Text: "false"}, num("0"), num("-12e-1000000"), num(strings.Repeat("1", api.MaxDigits)), str(""), str("\x00é\ufffd"),
		arr(), obj(), obj(""), obj("a", "A"), deep(31, null()), wide(api.MaxNodes), api.Value{Kind: api.KindArray, Keys: []string{}, Items: []api.Value{}})
}

func open() []api.Value {
	return []api.Value{hole("0"), hole("1e1"), hole("4095"), arr(hole("0"), null()), member("a", hole("5")), hole("9223372036854775807")}
}

func wrong() []api.Value {
	big := obj("a")
	big.Keys = append(big.Keys, "b")
	short := obj("a")
	short.Items = append(short.Items, null())
	return []api.Value{
		{}, {Kind: -1}, {Kind: 8}, {Kind: api.KindNull, Text: "null"}, {Kind: api.KindBool}, {Kind: api.KindBool, Text: "True"}, {Kind: api.KindBool, Text: "null"},
		num(""), num("10"), num("1.5"), num("01"), num("-0"), num("1E1"), num("1e+1"), num("1e01"), num("1e0"), num("x"), num("1e1000001"), num(strings.Repeat("1", api.MaxDigits+1)), num("1 "),
		str("\xff"), {Kind: api.KindArray, Text: "x"}, {Kind: api.KindObject, Text: "x"}, {Kind: api.KindArray, Keys: []string{"a"}, Items: []api.Value{null()}},
		big, short, obj("a", "a"), obj("\xff"), obj("a", "b", "a"), {Kind: api.KindNull, Items: []api.Value{null()}}, {Kind: api.KindString, Keys: []string{"a"}}, {Kind: api.KindNumber, Text: "1", Items: []api.Value{null()}},
		{Kind: api.KindBool, Text: "true", Keys: []string{"x"}}, {Kind: api.KindHole}, hole("-1"), hole("15e-1"), hole("01"), hole("10"), hole("9223372036854775808"), hole("x"), {Kind: api.KindHole, Text: "0", Items: []api.Value{null()}},
		deep(32, null()), deep(40, null()), wide(api.MaxNodes + 1), arr(api.Value{}), member("a", str("\xc3")), deep(30, arr(num("1.0"))), {Kind: api.KindHole, Text: "0", Keys: []string{"a"}},
	}
}

func TestRightAndOpen(t *testing.T) { // P6.1
	for _, v := range right() {
		if !value.Right(v) || !value.Open(v) {
			t.Errorf("%.200v", v)
		}
	}
	for _, v := range open() {
		if value.Right(v) || !value.Open(v) {
			t.Errorf("%v", v)
		}
	}
	for i, v := range wrong() {
		if value.Right(v) || value.Open(v) {
			t.Errorf("%d: %.200v", i, v)
		}
	}
}

func TestSizeAndDepth(t *testing.T) { // P6.1
	for _, c := range []struct {
		v           api.Value
		size, depth int
	}{
		{null(), 1, 1}, {arr(num("1"), arr(num("2"))), 4, 3}, {arr(), 1, 1}, {member("a", arr()), 2, 2}, {api.Value{}, 1, 1}, {api.Value{Kind: api.KindNull, Items: []api.Value{{}}}, 2, 2},
		{deep(1<<10-1, null()), 1 << 10, 1 << 10}, {wide(1 << 20), 1 << 20, 2}, {arr(arr(arr()), num("1")), 4, 3}, {hole("0"), 1, 1}, {arr(deep(3, null()), deep(5, null()), null()), 12, 7},
	} {
		if n, d := value.Size(c.v), value.Depth(c.v); n != c.size || d != c.depth {
			t.Errorf("%.100v: %d, %d", c.v, n, d)
		}
	}
}

// order is the order as the document tells it.
func order(a, b api.Value) int {
	if a.Kind != b.Kind {
		return a.Kind - b.Kind
	}
	if a.Kind == api.KindNumber {
		x, y := new(big.Rat), new(big.Rat)
		if strings.Contains(a.Text+b.Text, "1000000") {
			return map[bool]int{true: 1, false: -1}[strings.Contains(a.Text, "1000000")] * map[bool]int{true: 0, false: 1}[a.Text == b.Text]
		}
		x.SetString(a.Text)
		y.SetString(b.Text)
		return x.Cmp(y)
	}
	if a.Text != b.Text {
		return strings.Compare(a.Text, b.Text)
	}
	if a.Kind == api.KindObject {
		x, y := slices.Sorted(slices.Values(a.Keys)), slices.Sorted(slices.Values(b.Keys))
		if c := slices.Compare(x, y); c != 0 {
			return c
		}
		for _, key := range x {
			if c := order(a.Items[slices.Index(a.Keys, key)], b.Items[slices.Index(b.Keys, key)]); c != 0 {
				return c
			}
		}
		return 0
	}
	return slices.CompareFunc(a.Items, b.Items, order)
}

func sign(n int) int { return max(-1, min(1, n)) }

func TestSameAndCompare(t *testing.T) { // P6.2, P6.6
	all := append(samples.Values(8, 200), open()...)
	for _, a := range all {
		for _, b := range all {
			want := sign(order(a, b))
			if got := value.Compare(a, b); got != want || value.Same(a, b) != (want == 0) || value.Compare(b, a) != -want {
				t.Errorf("%v, %v: %d, %v, not %d", a, b, got, value.Same(a, b), want)
			}
		}
		for _, w := range wrong() {
			if value.Same(a, w) || value.Same(w, a) || value.Compare(a, w) != 1 || value.Compare(w, a) != -1 {
				t.Errorf("%v, %.100v", a, w)
			}
		}
	}
	for _, a := range wrong() {
		for _, b := range wrong() {
			if value.Same(a, b) || value.Compare(a, b) != 0 {
				t.Errorf("%.100v, %.100v", a, b)
			}
		}
	}
	rise := []api.Value{
		null(), {Kind: api.KindBool, Text: "false"}, {Kind: api.KindBool, Text: "true"}, num("-1e1"), num("-9"), num("0"), num("9"), num("1e1"), num("101e-1"), str(""), str("A"), str("a"), str("aa"), str("b"),
		arr(), arr(num("1")), arr(num("1"), num("2")), arr(num("2")), obj(), member("a", num("2")), member("a", num("3")), obj("b", "a"), member("b", num("1")), obj("b", "c"), hole("0"), hole("1e1"), hole("9"),
	}
	for i, a := range rise {
		for j, b := range rise {
			if got := value.Compare(a, b); got != sign(i-j) {
				t.Errorf("%v, %v: %d", a, b, got)
			}
		}
	}
}

func TestOrder(t *testing.T) { // P6.6
	all := samples.Values(9, 90)
	slices.SortFunc(all, value.Compare)
	for i, a := range all {
		for j, b := range all {
			if c := value.Compare(a, b); i < j && c > 0 || i > j && c < 0 || (c == 0) != value.Same(a, b) {
				t.Errorf("%v, %v: %d", a, b, c)
			}
		}
	}
}

func TestSortedAndCopy(t *testing.T) { // P6.3, P6.7
	x := samples.New(10)
	for _, v := range append(right(), open()...) {
		if c := value.Copy(v); !samples.Same(c, v) {
			t.Errorf("%.100v: a copy is %.100v", v, c)
		}
		s := value.Sorted(v)
		if !value.Same(s, v) || !inOrder(s) || !samples.Same(value.Sorted(x.Shuffled(v)), s) {
			t.Errorf("%.100v: sorted %.100v", v, s)
		}
	}
	all := samples.Values(11, 60)
	for _, a := range all {
		for _, b := range all {
			if samples.Same(value.Sorted(a), value.Sorted(b)) != value.Same(a, b) {
				t.Errorf("%v, %v", a, b)
			}
		}
	}
	for _, v := range wrong() {
		if !samples.Zero(value.Sorted(v)) || !samples.Zero(value.Copy(v)) {
			t.Errorf("%.100v", v)
		}
	}
	if v := value.Sorted(member("x", obj("b", "a", "B"))); !slices.Equal(v.Items[0].Keys, []string{"B", "a", "b"}) {
		t.Errorf("%v", v)
	}
}

// inOrder tells whether the members of all objects are.
func inOrder(v api.Value) bool {
	return slices.IsSorted(v.Keys) && !slices.ContainsFunc(v.Items, func(w api.Value) bool { return !inOrder(w) })
}

func TestGet(t *testing.T) { // P6.4
	v := api.Value{Kind: api.KindObject, Keys: []string{"a", "", "b"}, Items: []api.Value{num("1"), arr(hole("0")), obj()}}
	for i, key := range v.Keys {
		if w, ok := value.Get(v, key); !ok || !samples.Same(w, v.Items[i]) {
			t.Errorf("%q: %v, %v", key, w, ok)
		}
	}
	bad := obj("a", "a")
	late := obj("a", "b")
	late.Items[1] = num("10")
	for _, w := range []api.Value{arr(null()), null(), str("a"), bad, late, member("b", null()), obj(), {}, {Kind: api.KindArray, Keys: []string{"a"}, Items: []api.Value{null()}}} {
		if g, ok := value.Get(w, "a"); ok || !samples.Zero(g) {
			t.Errorf("%v: %v", w, g)
		}
	}
	if g, ok := value.Get(v, "A"); ok || !samples.Zero(g) {
		t.Errorf("%v", g)
	}
}

func TestOfAndNum(t *testing.T) { // P6.4
	if v := value.Of("a\xff"); !samples.Same(v, str("a\xff")) {
		t.Errorf("%v", v)
	}
	for n, want := range map[int]string{0: "0", 10: "1e1", -7: "-7", 120: "12e1", api.MaxInt: "9223372036854775807", api.MinInt: "-9223372036854775808"} {
		if v := value.Num(n); !samples.Same(v, num(want)) {
			t.Errorf("%d: %v", n, v)
		}
	}
}

func TestNewMemory(t *testing.T) { // P6.5
	for _, v := range samples.Values(12, 100) {
		in := samples.Roomy(v)
		c, s := value.Copy(in), value.Sorted(in)
		samples.Spoil(c)
		samples.Spoil(s)
		for _, key := range in.Keys {
			g, _ := value.Get(in, key)
			samples.Spoil(g)
		}
		value.Right(in)
		value.Compare(in, in)
		if !samples.Untouched(in, v) {
			t.Fatalf("%v was turned", v)
		}
	}
	v := value.Copy(arr(arr(num("1")), arr(num("2"))))
	_ = append(v.Items[0].Items, null())
	samples.Spoil(v.Items[0])
	if !samples.Same(v.Items[1], arr(num("2"))) {
		t.Error("two lists of one answer share memory")
	}
}
