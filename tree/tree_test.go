package tree_test

import (
	"slices"
	"strings"
	"testing"

	"scarf/api"
	"scarf/print"
	"scarf/read"
	"scarf/samples"
	"scarf/tree"
	"scarf/value"
)

// of is the value of a text.
func of(t *testing.T, s string) api.Value {
	t.Helper()
	v, _, err := read.Read(s)
	if err != api.OK {
		t.Fatalf("%s: %d", s, err)
	}
	return v
}

// equal holds trees against each other.
func equal(a, b api.Tree) bool {
	return slices.Equal(a.Labels, b.Labels) && slices.Equal(a.Left, b.Left)
}

// none tells whether a tree is zero.
func none(t api.Tree) bool { return len(t.Labels)+len(t.Left) == 0 }

// wide is an array of so many items.
func wide(n int) api.Value {
	v := api.Value{Kind: api.KindArray}
	for range n {
		v.Items = append(v.Items, value.Num(1))
	}
	return v
}

func TestFrom(t *testing.T) { // P15.1
	for s, want := range map[string]api.Tree{
		`{"b":1,"a":[2]}`: {Labels: []string{"2", "[", `k"a"`, "1", `k"b"`, "{"}, Left: []int{0, 0, 0, 3, 3, 0}},
		"null":            {Labels: []string{"null"}, Left: []int{0}}, "true": {Labels: []string{"true"}, Left: []int{0}}, "1200": {Labels: []string{"12e2"}, Left: []int{0}}, `"a\n"`: {Labels: []string{`"a\n"`}, Left: []int{0}}, "[]": {Labels: []string{"["}, Left: []int{0}}, "{}": {Labels: []string{"{"}, Left: []int{0}},
		`[1,[],{"\"":{}},2]`: {Labels: []string{"1", "[", "{", `k"\""`, "{", "2", "["}, Left: []int{0, 1, 2, 2, 2, 5, 0}},
		`"["`:                {Labels: []string{`"["`}, Left: []int{0}}, `{"B":0,"a":0,"":0}`: {Labels: []string{"0", `k""`, "0", `k"B"`, "0", `k"a"`, "{"}, Left: []int{0, 0, 2, 2, 4, 4, 0}},
	} {
		if got, err := tree.From(of(t, s)); !equal(got, want) || err != api.OK {
			t.Errorf("%s: %v, %d", s, got, err)
		}
	}
	for _, v := range []api.Value{{}, {Kind: api.KindHole, Text: "0"}, value.Of("\xff"), {Kind: api.KindNumber, Text: "10"}} {
		if got, err := tree.From(v); !none(got) || err != api.ErrArg {
			t.Errorf("%v: %v, %d", v, got, err)
		}
	}
	if got, err := tree.From(wide(api.MaxTree - 1)); len(got.Labels) != api.MaxTree || err != api.OK {
		t.Errorf("the greatest tree: %d nodes, %d", len(got.Labels), err)
	}
	if got, err := tree.From(wide(api.MaxTree)); !none(got) || err != api.ErrMany {
		t.Errorf("too great a tree: %d nodes, %d", len(got.Labels), err)
	}
}

// right tells of a tree what the document says.
func right(t api.Tree) bool {
	if len(t.Labels) != len(t.Left) || len(t.Left) > api.MaxTree {
		return false
	}
	for j := range t.Left {
		if t.Left[j] < 0 || t.Left[j] > j {
			return false
		}
		for i := range j {
			if t.Left[j] <= i && t.Left[j] > t.Left[i] {
				return false
			}
		}
	}
	return true
}

// forests are trees of all shapes up to a size, and rows of numbers that are none.
func forests() []api.Tree {
	var all []api.Tree
	var grow func(left []int)
	grow = func(left []int) {
		t := api.Tree{Left: slices.Clone(left)}
		for i := range left {
			t.Labels = append(t.Labels, string(rune('a'+i%2)))
		}
		all = append(all, t)
		if len(left) < 5 {
			for k := -1; k <= len(left)+1; k++ {
				grow(append(slices.Clone(left), k))
			}
		}
	}
	grow(nil)
	return all
}

func TestRight(t *testing.T) { // P15.1
	for _, x := range forests() {
		if tree.Right(x) != right(x) {
			t.Errorf("%v", x)
		}
		if !right(x) && len(tree.Roots(x))+len(tree.Parents(x))+len(tree.Keyroots(x)) != 0 {
			t.Errorf("%v: %v, %v, %v", x, tree.Roots(x), tree.Parents(x), tree.Keyroots(x))
		}
	}
	for _, x := range []api.Tree{{Labels: []string{"a"}}, {Left: []int{0}}, {Labels: []string{"a", "b"}, Left: []int{0}}, {Labels: make([]string, 513), Left: make([]int, 513)}, {Labels: []string{"a"}, Left: []int{api.MinInt}}, {Labels: []string{"a"}, Left: []int{api.MaxInt}}, {Labels: []string{"a", "b", "c"}, Left: []int{0, 0, 1}}} {
		if tree.Right(x) || tree.Roots(x) != nil || tree.Parents(x) != nil || tree.Keyroots(x) != nil {
			t.Errorf("%.100v", x)
		}
	}
	if !tree.Right(api.Tree{}) || !tree.Right(api.Tree{Labels: make([]string, 512), Left: make([]int, 512)}) || !tree.Right(api.Tree{Labels: []string{"", "\xff"}, Left: []int{0, 1}}) {
		t.Error("trees that are right")
	}
}

func TestShape(t *testing.T) { // P15.2, P15.5
	for _, x := range forests() {
		if !right(x) {
			continue
		}
		beneath := func(i, k int) bool { return x.Left[k] <= i && i < k }
		var roots, parents, keyroots []int
		for i := range x.Left {
			above := -1
			for j := len(x.Left) - 1; j > i; j-- {
				if beneath(i, j) {
					above = j
				}
			}
			parents = append(parents, above)
			if above < 0 {
				roots = append(roots, i)
			}
			if !slices.Contains(x.Left[i+1:], x.Left[i]) {
				keyroots = append(keyroots, i)
			}
		}
		if !slices.Equal(tree.Roots(x), roots) || !slices.Equal(tree.Parents(x), parents) || !slices.Equal(tree.Keyroots(x), keyroots) {
			t.Errorf("%v: %v, %v, %v, not %v, %v, %v", x, tree.Roots(x), tree.Parents(x), tree.Keyroots(x), roots, parents, keyroots)
		}
		for k := range x.Left {
			at := x.Left[k]
			for i := range k {
				if parents[i] == k {
					if x.Left[i] != at {
						t.Errorf("%v: beneath %d", x, k)
					}
					at = i + 1
				}
			}
			if at != k {
				t.Errorf("%v: beneath %d", x, k)
			}
		}
	}
	x, _ := tree.From(of(t, `{"b":1,"a":[2]}`))
	if !slices.Equal(tree.Roots(x), []int{5}) || !slices.Equal(tree.Parents(x), []int{1, 2, 5, 4, 5, -1}) || !slices.Equal(tree.Keyroots(x), []int{4, 5}) {
		t.Errorf("%v, %v, %v", tree.Roots(x), tree.Parents(x), tree.Keyroots(x))
	}
}

func TestValue(t *testing.T) { // P15.1
	if v, ok := tree.Value(api.Tree{Labels: []string{"2", "[", `k"a"`, "1", `k"b"`, "{"}, Left: []int{0, 0, 0, 3, 3, 0}}); !ok || !samples.Same(v, of(t, `{"a":[2],"b":1}`)) {
		t.Errorf("%v, %v", v, ok)
	}
	for _, x := range []api.Tree{
		{}, {Labels: []string{"1", "2"}, Left: []int{0, 1}}, {Labels: []string{"1", "2"}, Left: []int{0, 0}}, {Labels: []string{"10"}, Left: []int{0}}, {Labels: []string{`"\u0061"`}, Left: []int{0}}, {Labels: []string{"x"}, Left: []int{0}}, {Labels: []string{""}, Left: []int{0}}, {Labels: []string{"[]"}, Left: []int{0}}, {Labels: []string{"{}"}, Left: []int{0}}, {Labels: []string{" 1"}, Left: []int{0}},
		{Labels: []string{"1", "{"}, Left: []int{0, 0}}, {Labels: []string{`k"a"`, "{"}, Left: []int{0, 0}}, {Labels: []string{`k"a"`}, Left: []int{0}}, {Labels: []string{"1", `k"a"`}, Left: []int{0, 0}}, {Labels: []string{"1", `k"a"`, "["}, Left: []int{0, 0, 0}}, {Labels: []string{"1", "2", `k"a"`, "{"}, Left: []int{0, 1, 0, 0}}, {Labels: []string{"1", "ka", "{"}, Left: []int{0, 0, 0}}, {Labels: []string{"1", `"a"`, "{"}, Left: []int{0, 0, 0}},
		{Labels: []string{"1", `k"b"`, "2", `k"a"`, "{"}, Left: []int{0, 0, 2, 2, 0}}, {Labels: []string{"1", `k"a"`, "2", `k"a"`, "{"}, Left: []int{0, 0, 2, 2, 0}}, {Labels: []string{"1", `k"\u0061"`, "{"}, Left: []int{0, 0, 0}}, {Labels: []string{"1"}, Left: []int{1}}, {Labels: []string{"1"}}, {Labels: []string{"\"\xff\""}, Left: []int{0}}, {Labels: []string{"1", "[", "["}, Left: []int{0, 0, 2}},
		{Labels: slices.Repeat([]string{"["}, 33), Left: make([]int, 33)},
	} {
		if v, ok := tree.Value(x); ok || !samples.Zero(v) {
			t.Errorf("%.100v: %v", x, v)
		}
	}
	if v, ok := tree.Value(api.Tree{Labels: slices.Repeat([]string{"["}, 32), Left: make([]int, 32)}); !ok || value.Depth(v) != 32 {
		t.Errorf("%v, %v", v, ok)
	}
	long := value.Of(strings.Repeat("é\n", api.MaxText))
	x, err := tree.From(api.Value{Kind: api.KindObject, Keys: []string{long.Text}, Items: []api.Value{long}})
	if v, ok := tree.Value(x); !ok || err != api.OK || len(v.Items) != 1 || v.Items[0].Text != long.Text || v.Keys[0] != long.Text {
		t.Errorf("long texts: %d, %v", err, ok)
	}
}

func TestOneTree(t *testing.T) { // P15.3, P15.4
	all := samples.Values(30, 150)
	for _, v := range all {
		in := samples.Roomy(v)
		a, err := tree.From(in)
		if !tree.Right(a) || err != api.OK || !slices.Equal(tree.Roots(a), []int{len(a.Left) - 1}) {
			t.Errorf("%v: %v, %d", v, a, err)
		}
		back, ok := tree.Value(a)
		if !ok || !samples.Same(back, value.Sorted(v)) {
			t.Errorf("%v: %v, %v", v, back, ok)
		}
		samples.Spoil(back)
		if !samples.Untouched(in, v) {
			t.Errorf("%v was turned", v)
		}
		for _, w := range all {
			if b, _ := tree.From(w); equal(a, b) != value.Same(v, w) {
				x, _ := print.Compact(v)
				y, _ := print.Compact(w)
				t.Errorf("%s, %s", x, y)
			}
		}
	}
	x := api.Tree{Labels: []string{"1", "["}, Left: []int{0, 0}}
	for _, l := range [][]int{tree.Roots(x), tree.Parents(x), tree.Keyroots(x)} {
		for i := range l {
			l[i] = -9
		}
	}
	if !slices.Equal(tree.Roots(x), []int{1}) || !slices.Equal(x.Left, []int{0, 0}) {
		t.Error("an answer is no new memory")
	}
}
