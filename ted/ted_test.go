package ted_test

import (
	"slices"
	"testing"

	"scarf/api"
	"scarf/read"
	"scarf/samples"
	"scarf/ted"
	"scarf/tree"
	"scarf/value"
)

// of is the value of a text.
func of(t *testing.T, s string) api.Value {
	t.Helper()
	v, _, err := read.Read(s)
	if err != api.OK {
		t.Fatalf("%s: %d", s, err)
	}
	return v
}

// forests are all right trees of up to n nodes, with labels of two kinds.
func forests(n int) []api.Tree {
	all := []api.Tree{{}}
	for at := 0; at < len(all); at++ {
		t := all[at]
		if len(t.Left) == n {
			continue
		}
		for left := 0; left <= len(t.Left); left++ {
			x := api.Tree{Left: append(slices.Clone(t.Left), left)}
			if x.Labels = append(slices.Clone(t.Labels), "a"); !tree.Right(x) {
				continue
			}
			all = append(all, x)
			x.Labels = append(slices.Clone(t.Labels), "b")
			all = append(all, x)
		}
	}
	return all
}

// part is a node and all beneath it, as a tree.
func part(t api.Tree, i int) api.Tree {
	var p api.Tree
	for k := t.Left[i]; k <= i; k++ {
		p.Labels = append(p.Labels, t.Labels[k])
		p.Left = append(p.Left, t.Left[k]-t.Left[i])
	}
	return p
}

// least is the least price of all mappings, each of which is tried.
func least(a, b api.Tree) int {
	best := len(a.Left) + len(b.Left)
	var pairs []api.Pair
	var try func(i, price int)
	try = func(i, price int) {
		if i == len(a.Left) {
			best = min(best, price)
			return
		}
		try(i+1, price)
		for j := range b.Left {
			fits := true
			for _, p := range pairs {
				beneath := a.Left[i] <= p.A
				fits = fits && p.B < j && beneath == (b.Left[j] <= p.B)
			}
			if !fits {
				continue
			}
			pairs = append(pairs, api.Pair{A: i, B: j})
			turned := 0
			if a.Labels[i] != b.Labels[j] {
				turned = 1
			}
			try(i+1, price-2+turned)
			pairs = pairs[:len(pairs)-1]
		}
	}
	try(0, best)
	return best
}

func TestCost(t *testing.T) { // P16.1
	all := forests(4)
	for k, a := range all {
		for l, b := range all {
			if (k+l)%7 != 0 && len(a.Left)+len(b.Left) > 6 {
				continue
			}
			want := least(a, b)
			if got, err := ted.Cost(a, b); got != want || err != api.OK {
				t.Fatalf("%v, %v: %d, %d, not %d", a, b, got, err, want)
			}
		}
	}
}

func TestCosts(t *testing.T) { // P16.1
	x := samples.New(31)
	all := forests(5)
	trees := []api.Tree{{}}
	for range 60 {
		trees = append(trees, all[x.Under(len(all))])
	}
	for _, v := range samples.Values(31, 20) {
		one, _ := tree.From(v)
		trees = append(trees, one)
	}
	for k, a := range trees {
		b := trees[(k*7+3)%len(trees)]
		rows, err := ted.Costs(a, b)
		if len(rows) != len(a.Left) || err != api.OK {
			t.Fatalf("%v, %v: %v, %d", a, b, rows, err)
		}
		for i, row := range rows {
			if len(row) != len(b.Left) {
				t.Fatalf("%v, %v: %v", a, b, rows)
			}
			for j, got := range row {
				if want, _ := ted.Cost(part(a, i), part(b, j)); got != want {
					t.Errorf("%v, %v: at %d, %d %d, not %d", a, b, i, j, got, want)
				}
			}
		}
	}
}

func TestWrong(t *testing.T) { // P16.1, P16.2
	good := api.Tree{Labels: []string{"a"}, Left: []int{0}}
	for _, bad := range []api.Tree{{Labels: []string{"a"}}, {Labels: []string{"a"}, Left: []int{1}}, {Labels: []string{"a", "b", "c"}, Left: []int{0, 0, 1}}, {Labels: make([]string, 513), Left: make([]int, 513)}} {
		for _, c := range [][2]api.Tree{{bad, good}, {good, bad}, {bad, bad}} {
			n, e := ted.Cost(c[0], c[1])
			l, f := ted.Costs(c[0], c[1])
			if n != 0 || l != nil || e != api.ErrArg || f != api.ErrArg {
				t.Errorf("%.100v: %d, %d, %v, %d", c, n, e, l, f)
			}
		}
	}
	great := api.Value{Kind: api.KindArray}
	for range api.MaxTree {
		great.Items = append(great.Items, value.Num(0))
	}
	one := value.Num(1)
	for _, c := range []struct {
		v, w api.Value
		err  api.Errno
	}{{great, one, api.ErrMany}, {one, great, api.ErrMany}, {api.Value{}, great, api.ErrArg}, {great, api.Value{}, api.ErrMany}, {one, api.Value{}, api.ErrArg}} {
		if n, err := ted.Between(c.v, c.w); n != 0 || err != c.err {
			t.Errorf("%d, %d, not %d", n, err, c.err)
		}
	}
}

func TestBetween(t *testing.T) { // P16.2
	for _, c := range []struct {
		v, w string
		n    int
	}{
		{"[1,2]", "[1,3]", 1}, {"[1,2]", "[2]", 1}, {"1", "[1]", 1}, {`{"a":1}`, `{"b":1}`, 1}, {`{"a":1}`, "[]", 3}, {"1", "1.0", 0}, {"1", `"1"`, 1}, {`{"a":1,"b":2}`, `{"b":2,"a":1}`, 0}, {"[1,2,3]", "[3,2,1]", 2}, {"[[1],2]", "[1,2]", 1}, {"[]", "{}", 1}, {"null", "[[null]]", 2},
	} {
		if n, err := ted.Between(of(t, c.v), of(t, c.w)); n != c.n || err != api.OK {
			t.Errorf("%s, %s: %d, %d", c.v, c.w, n, err)
		}
	}
}

func TestDistance(t *testing.T) { // P16.3, P16.4, P16.5
	all := samples.Values(32, 45)
	cost := map[[2]int]int{}
	for i, v := range all {
		a, _ := tree.From(v)
		for j, w := range all {
			in, other := samples.Roomy(v), samples.Roomy(w)
			b, _ := tree.From(w)
			n, err := ted.Between(in, other)
			cost[[2]int{i, j}] = n
			unlike := max(len(a.Left)-len(b.Left), len(b.Left)-len(a.Left))
			if err != api.OK || (n == 0) != value.Same(v, w) || n < unlike || n > len(a.Left)+len(b.Left) || !samples.Untouched(in, v) || !samples.Untouched(other, w) {
				t.Errorf("%v, %v: %d, %d", v, w, n, err)
			}
		}
		if n, err := ted.Between(v, api.Value{Kind: api.KindArray, Items: []api.Value{v}}); n != 1 || err != api.OK {
			t.Errorf("%v in an array: %d", v, n)
		}
		for k := range a.Labels {
			b := api.Tree{Labels: slices.Clone(a.Labels), Left: a.Left}
			b.Labels[k] = "turned"
			if n, err := ted.Cost(a, b); n != 1 || err != api.OK {
				t.Errorf("%v, %v: %d", a, b, n)
			}
		}
	}
	for i := range all {
		for j := range all {
			for k := range all {
				if cost[[2]int{i, j}] > cost[[2]int{i, k}]+cost[[2]int{k, j}] {
					t.Errorf("%v, %v over %v", all[i], all[j], all[k])
				}
			}
			if cost[[2]int{i, j}] != cost[[2]int{j, i}] {
				t.Errorf("%v, %v", all[i], all[j])
			}
		}
	}
	x := api.Tree{Labels: []string{"a", "b"}, Left: []int{0, 0}}
	y := api.Tree{Labels: []string{"b", "c", "d"}, Left: []int{0, 1, 0}}
	ted.Cost(x, y)
	ted.Costs(y, x)
	if !slices.Equal(x.Labels, []string{"a", "b"}) || !slices.Equal(y.Labels, []string{"b", "c", "d"}) || !slices.Equal(y.Left, []int{0, 1, 0}) || !slices.Equal(x.Left, []int{0, 0}) {
		t.Errorf("%v, %v were turned", x, y)
	}
	rows, _ := ted.Costs(x, x)
	_ = append(rows[0], 77)
	rows[0][0] = 99
	if rows[1][0] != 1 || rows[1][1] != 0 {
		t.Errorf("two lists of one answer share memory: %v", rows)
	}
	if again, _ := ted.Costs(x, x); again[0][0] != 0 {
		t.Error("an answer is no new memory")
	}
}

func TestGreatTrees(t *testing.T) { // P16.1
	chain := api.Tree{Labels: make([]string, 512), Left: make([]int, 512)}
	flat := api.Tree{Labels: make([]string, 512)}
	for i := range 512 {
		flat.Left = append(flat.Left, i)
	}
	// A comb leans to the right: beneath each node a leaf, and the rest of it.
	var comb, other api.Tree
	for i := range 256 {
		comb.Labels, comb.Left = append(comb.Labels, "leaf"), append(comb.Left, i)
	}
	for i := range 255 {
		comb.Labels, comb.Left = append(comb.Labels, "node"), append(comb.Left, 254-i)
	}
	other = api.Tree{Labels: slices.Clone(comb.Labels), Left: comb.Left}
	other.Labels[7], other.Labels[300] = "turned", "turned"
	for _, c := range []struct {
		a, b api.Tree
		n    int
	}{{comb, comb, 0}, {comb, other, 2}, {comb, api.Tree{}, 511}, {chain, chain, 0}, {flat, flat, 0}, {chain, flat, 1022}, {flat, api.Tree{}, 512}, {api.Tree{}, chain, 512}, {api.Tree{}, api.Tree{}, 0}} {
		if n, err := ted.Cost(c.a, c.b); n != c.n || err != api.OK {
			t.Errorf("%d, %d, not %d", n, err, c.n)
		}
	}
}
