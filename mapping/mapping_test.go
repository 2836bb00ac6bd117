package mapping_test

import (
	"slices"
	"testing"

	"scarf/api"
	"scarf/mapping"
	"scarf/read"
	"scarf/samples"
	"scarf/ted"
	"scarf/tree"
)

// of is the tree of a text's value.
func of(t *testing.T, s string) api.Tree {
	t.Helper()
	v, _, err := read.Read(s)
	x, e := tree.From(v)
	if err != api.OK || e != api.OK {
		t.Fatalf("%s: %d, %d", s, err, e)
	}
	return x
}

// forests are right trees of up to n nodes, with labels of two kinds.
func forests(n int) []api.Tree {
	all := []api.Tree{{}}
	for at := 0; at < len(all); at++ {
		t := all[at]
		if len(t.Left) == n {
			continue
		}
		for left := 0; left <= len(t.Left); left++ {
			x := api.Tree{Labels: append(slices.Clone(t.Labels), "a"), Left: append(slices.Clone(t.Left), left)}
			if tree.Right(x) {
				all = append(all, x, api.Tree{Labels: append(slices.Clone(t.Labels), "b"), Left: x.Left})
			}
		}
	}
	return all
}

// right tells of a row what the document says of a mapping.
func right(a, b api.Tree, m []api.Pair) bool {
	if !tree.Right(a) || !tree.Right(b) {
		return false
	}
	beneath := func(t api.Tree, i, k int) bool { return t.Left[k] <= i && i < k }
	for x, p := range m {
		if p.A < 0 || p.A >= len(a.Left) || p.B < 0 || p.B >= len(b.Left) {
			return false
		}
		for y, q := range m[:x] {
			if q.A < 0 || q.B < 0 || q.A >= len(a.Left) || q.B >= len(b.Left) || y < x && q.A >= p.A {
				return false
			}
			if (p.A == q.A) != (p.B == q.B) || (p.A < q.A) != (p.B < q.B) || beneath(a, p.A, q.A) != beneath(b, p.B, q.B) || beneath(a, q.A, p.A) != beneath(b, q.B, p.B) {
				return false
			}
		}
	}
	return true
}

// price is a right mapping's.
func price(a, b api.Tree, m []api.Pair) int {
	n := len(a.Left) + len(b.Left) - 2*len(m)
	for _, p := range m {
		if a.Labels[p.A] != b.Labels[p.B] {
			n++
		}
	}
	return n
}

// pairs is a random row, that often is a right mapping.
func pairs(x *samples.Source, n, m int) []api.Pair {
	var l []api.Pair
	i, j := -1, -1
	for {
		i, j = i+1+x.Under(2), j+1+x.Under(2)
		if i >= n || j >= m {
			break
		}
		l = append(l, api.Pair{A: i, B: j})
	}
	if len(l) > 0 && x.Under(8) == 0 {
		l[x.Under(len(l))] = api.Pair{A: x.Under(n+2) - 1, B: x.Under(m+2) - 1}
	}
	return l
}

func TestRightPriceSplit(t *testing.T) { // P17.1, P17.3, P17.7
	x := samples.New(33)
	all := forests(4)
	yes := 0
	for range 6000 {
		a, b := all[x.Under(len(all))], all[x.Under(len(all))]
		m := pairs(x, len(a.Left), len(b.Left))
		want := right(a, b, m)
		n, err := mapping.Price(a, b, m)
		gone, come, turned, e := mapping.Split(a, b, m)
		if mapping.Right(a, b, m) != want {
			t.Fatalf("%v, %v: %v", a, b, m)
		}
		if !want {
			if n != 0 || err != api.ErrArg || e != api.ErrArg || gone != nil || come != nil || turned != nil {
				t.Errorf("%v, %v, %v: %d, %d; %v, %v, %v, %d", a, b, m, n, err, gone, come, turned, e)
			}
			continue
		}
		yes++
		var wantGone, wantCome []int
		var wantTurned []api.Pair
		for i := range a.Left {
			if !slices.ContainsFunc(m, func(p api.Pair) bool { return p.A == i }) {
				wantGone = append(wantGone, i)
			}
		}
		for j := range b.Left {
			if !slices.ContainsFunc(m, func(p api.Pair) bool { return p.B == j }) {
				wantCome = append(wantCome, j)
			}
		}
		for _, p := range m {
			if a.Labels[p.A] != b.Labels[p.B] {
				wantTurned = append(wantTurned, p)
			}
		}
		if n != price(a, b, m) || err != api.OK || e != api.OK || !slices.Equal(gone, wantGone) || !slices.Equal(come, wantCome) || !slices.Equal(turned, wantTurned) || n != len(gone)+len(come)+len(turned) {
			t.Errorf("%v, %v, %v: %d, %d; %v, %v, %v, %d", a, b, m, n, err, gone, come, turned, e)
		}
		if best, _ := ted.Cost(a, b); n < best {
			t.Errorf("%v, %v, %v: %d is less than %d", a, b, m, n, best)
		}
	}
	if yes < 1000 {
		t.Errorf("only %d right mappings", yes)
	}
	one := api.Tree{Labels: []string{"a"}, Left: []int{0}}
	two := api.Tree{Labels: []string{"a", "a"}, Left: []int{0, 0}}
	bad := api.Tree{Labels: []string{"a"}, Left: []int{1}}
	for _, m := range [][]api.Pair{{{A: -1, B: 0}}, {{A: 0, B: -1}}, {{A: 1, B: 0}}, {{A: 0, B: 1}}, {{A: api.MinInt, B: api.MaxInt}}, {{}, {}}} {
		if mapping.Right(one, one, m) {
			t.Errorf("%v", m)
		}
	}
	if mapping.Right(two, two, []api.Pair{{A: 1, B: 1}, {A: 0, B: 0}}) || mapping.Right(two, two, []api.Pair{{A: 0, B: 1}, {A: 1, B: 0}}) || mapping.Right(bad, one, nil) || mapping.Right(one, bad, nil) {
		t.Error("rows that are wrong")
	}
	if !mapping.Right(two, two, []api.Pair{{A: 0, B: 0}, {A: 1, B: 1}}) || !mapping.Right(one, two, nil) {
		t.Error("rows that are right")
	}
}

func TestBest(t *testing.T) { // P17.2
	x := samples.New(34)
	all := forests(5)
	var trees []api.Tree
	for range 150 {
		trees = append(trees, all[x.Under(len(all))])
	}
	for _, v := range samples.Values(34, 60) {
		one, _ := tree.From(v)
		trees = append(trees, one)
	}
	check := func(a, b api.Tree) {
		old := slices.Concat(a.Left, b.Left)
		m, err := mapping.Best(a, b)
		again, _ := mapping.Best(a, b)
		if !slices.Equal(m, again) || !slices.Equal(slices.Concat(a.Left, b.Left), old) {
			t.Errorf("%v, %v: %v, then %v", a, b, m, again)
		}
		want, _ := ted.Cost(a, b)
		if !right(a, b, m) || price(a, b, m) != want || err != api.OK {
			t.Errorf("%v, %v: %v costs %d, not %d", a, b, m, price(a, b, m), want)
		}
	}
	for k, a := range trees {
		for _, step := range []int{0, 1, 2, 7, 50, 149} {
			check(a, trees[(k+step)%len(trees)])
		}
	}
	for range 4000 {
		check(all[x.Under(len(all))], all[x.Under(len(all))])
	}
	for _, c := range []struct {
		v, w       string
		m          []api.Pair
		gone, come []int
		turned     []api.Pair
	}{
		{"[1,2]", "[1,3]", []api.Pair{{A: 0, B: 0}, {A: 1, B: 1}, {A: 2, B: 2}}, nil, nil, []api.Pair{{A: 1, B: 1}}}, {"1", "[1]", []api.Pair{{A: 0, B: 0}}, nil, []int{1}, nil},
	} {
		a, b := of(t, c.v), of(t, c.w)
		m, err := mapping.Best(a, b)
		gone, come, turned, e := mapping.Split(a, b, m)
		if !slices.Equal(m, c.m) || !slices.Equal(gone, c.gone) || !slices.Equal(come, c.come) || !slices.Equal(turned, c.turned) || err != api.OK || e != api.OK {
			t.Errorf("%s, %s: %v; %v, %v, %v", c.v, c.w, m, gone, come, turned)
		}
	}
	bad := api.Tree{Labels: []string{"a"}, Left: []int{1}}
	for _, c := range [][2]api.Tree{{bad, {}}, {{}, bad}} {
		if m, err := mapping.Best(c[0], c[1]); m != nil || err != api.ErrArg {
			t.Errorf("%v: %v, %d", c, m, err)
		}
	}
	chain := api.Tree{Labels: make([]string, 512), Left: make([]int, 512)}
	if m, err := mapping.Best(chain, chain); len(m) != 512 || err != api.OK {
		t.Errorf("%d pairs, %d", len(m), err)
	}
}

func TestBackAndOver(t *testing.T) { // P17.4
	for _, c := range []struct{ in, out []api.Pair }{
		{nil, nil}, {[]api.Pair{{A: 1, B: 2}}, []api.Pair{{A: 2, B: 1}}}, {[]api.Pair{{A: 0, B: 5}, {A: 3, B: 1}, {A: 2, B: 5}, {A: 2, B: 5}, {A: -1, B: 1}}, []api.Pair{{A: 1, B: -1}, {A: 1, B: 3}, {A: 5, B: 0}, {A: 5, B: 2}, {A: 5, B: 2}}},
		{[]api.Pair{{A: api.MaxInt, B: api.MinInt}, {A: api.MinInt, B: api.MaxInt}}, []api.Pair{{A: api.MinInt, B: api.MaxInt}, {A: api.MaxInt, B: api.MinInt}}},
	} {
		if got := mapping.Back(c.in); !slices.Equal(got, c.out) {
			t.Errorf("%v: %v", c.in, got)
		}
	}
	for _, c := range []struct{ m, n, out []api.Pair }{
		{nil, []api.Pair{{}}, nil}, {[]api.Pair{{}}, nil, nil}, {[]api.Pair{{A: 0, B: 1}, {A: 2, B: 3}}, []api.Pair{{A: 3, B: 4}, {A: 1, B: 9}}, []api.Pair{{A: 0, B: 9}, {A: 2, B: 4}}},
		{[]api.Pair{{A: 5, B: 1}, {A: 4, B: 1}, {A: 4, B: 2}}, []api.Pair{{A: 1, B: 8}, {A: 0, B: 0}, {A: 1, B: 7}, {A: 1, B: 8}}, []api.Pair{{A: 5, B: 8}, {A: 5, B: 7}, {A: 5, B: 8}, {A: 4, B: 8}, {A: 4, B: 7}, {A: 4, B: 8}}},
	} {
		if got := mapping.Over(c.m, c.n); !slices.Equal(got, c.out) {
			t.Errorf("%v over %v: %v", c.m, c.n, got)
		}
	}
}

func TestRightStaysRight(t *testing.T) { // P17.5, P17.6
	x := samples.New(35)
	all := forests(5)
	for range 3000 {
		a, b, c := all[x.Under(len(all))], all[x.Under(len(all))], all[x.Under(len(all))]
		m, n := pairs(x, len(a.Left), len(b.Left)), pairs(x, len(b.Left), len(c.Left))
		if x.Under(2) == 0 {
			m, _ = mapping.Best(a, b)
		}
		if x.Under(2) == 0 {
			n, _ = mapping.Best(b, c)
		}
		if !right(a, b, m) || !right(b, c, n) {
			continue
		}
		oldM, oldN := slices.Clone(m), slices.Clone(n)
		back, over := mapping.Back(m), mapping.Over(m, n)
		if !right(b, a, back) || !right(a, c, over) || price(a, c, over) > price(a, b, m)+price(b, c, n) || price(b, a, back) != price(a, b, m) {
			t.Errorf("%v, %v, %v: %v, %v", a, b, c, back, over)
		}
		for i := range back {
			back[i] = api.Pair{A: -7, B: -7}
		}
		for i := range over {
			over[i] = api.Pair{A: -7, B: -7}
		}
		if !slices.Equal(m, oldM) || !slices.Equal(n, oldN) {
			t.Error("an answer is no new memory")
		}
	}
}
