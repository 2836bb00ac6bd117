package align_test

import (
	"slices"
	"strings"
	"testing"

	"scarf/align"
	"scarf/api"
	"scarf/read"
	"scarf/samples"
	"scarf/ted"
	"scarf/tree"
	"scarf/value"
)

// items are those of an array's text.
func items(t *testing.T, s string) []api.Value {
	t.Helper()
	v, _, err := read.Read(s)
	if err != api.OK {
		t.Fatalf("%s: %d", s, err)
	}
	return v.Items
}

// size is how many nodes a value's tree has.
func size(v api.Value) int {
	t, _ := tree.From(v)
	return len(t.Left)
}

// all are all alignments of rests, with their costs.
func all(a, b []api.Value, i, j int) ([][]api.Pair, []int) {
	if i == len(a) || j == len(b) {
		n := 0
		for _, v := range slices.Concat(a[i:], b[j:]) {
			n += size(v)
		}
		return [][]api.Pair{nil}, []int{n}
	}
	var rows [][]api.Pair
	var costs []int
	add := func(l [][]api.Pair, c []int, head []api.Pair, cost int) {
		for k := range l {
			rows, costs = append(rows, slices.Concat(head, l[k])), append(costs, c[k]+cost)
		}
	}
	l, c := all(a, b, i+1, j+1)
	d, _ := ted.Between(a[i], b[j])
	add(l, c, []api.Pair{{A: i, B: j}}, d)
	l, c = all(a, b, i+1, j)
	add(l, c, nil, size(a[i]))
	l, c = all(a, b, i, j+1)
	add(l, c, nil, size(b[j]))
	return rows, costs
}

// chosen is the chosen one of alignments of least cost: that with a pair as long as one has it, then that without an item of the first row.
func chosen(rows [][]api.Pair, costs []int, n, m int) []api.Pair {
	best := slices.Min(costs)
	var left [][]api.Pair
	for k := range rows {
		if costs[k] == best {
			left = append(left, rows[k])
		}
	}
	has := func(p api.Pair) func(l []api.Pair) bool {
		return func(l []api.Pair) bool { return slices.Contains(l, p) }
	}
	with := func(i int) func(l []api.Pair) bool {
		return func(l []api.Pair) bool { return slices.ContainsFunc(l, func(p api.Pair) bool { return p.A == i }) }
	}
	var got []api.Pair
	i, j := 0, 0
	for i < n && j < m {
		p := api.Pair{A: i, B: j}
		switch {
		case slices.ContainsFunc(left, has(p)):
			left = slices.DeleteFunc(left, func(l []api.Pair) bool { return !has(p)(l) })
			got = append(got, p)
			i, j = i+1, j+1
		case slices.ContainsFunc(left, func(l []api.Pair) bool { return !with(i)(l) }):
			left = slices.DeleteFunc(left, with(i))
			i++
		default:
			j++
		}
	}
	return got
}

func TestRows(t *testing.T) { // P20.1, P20.4
	for _, c := range []struct {
		a, b string
		m    []api.Pair
		cost int
	}{
		{"[1,2,3]", "[1,3]", []api.Pair{{A: 0, B: 0}, {A: 2, B: 1}}, 1}, {`["a"]`, `["b"]`, []api.Pair{{A: 0, B: 0}}, 1}, {"[]", "[1,[2]]", nil, 3}, {"[[2]]", "[]", nil, 2}, {"[]", "[]", nil, 0}, {"[1,2]", "[2,1]", []api.Pair{{A: 0, B: 0}, {A: 1, B: 1}}, 2}, {"[1]", "[2,1]", []api.Pair{{A: 0, B: 1}}, 1}, {"[1,1]", "[1]", []api.Pair{{A: 0, B: 0}}, 1},
		{`[{"a":1},{"b":2}]`, `[{"b":2,"c":3}]`, []api.Pair{{A: 1, B: 0}}, 5}, {"[1.0]", "[1]", []api.Pair{{A: 0, B: 0}}, 0},
	} {
		if m, cost, err := align.Rows(items(t, c.a), items(t, c.b)); !slices.Equal(m, c.m) || cost != c.cost || err != api.OK {
			t.Errorf("%s, %s: %v, %d, %d", c.a, c.b, m, cost, err)
		}
	}
	x := samples.New(40)
	for range 300 {
		a, b := x.Array(3), x.Array(3)
		if x.Under(2) == 0 {
			b = x.Turned(a)
		}
		rows, costs := all(a.Items, b.Items, 0, 0)
		want := chosen(rows, costs, len(a.Items), len(b.Items))
		inA, inB := samples.Roomy(a), samples.Roomy(b)
		m, cost, err := align.Rows(inA.Items, inB.Items)
		if cost != slices.Min(costs) || !slices.Equal(m, want) || err != api.OK {
			t.Errorf("%v, %v: %v, %d, not %v, %d", a, b, m, cost, want, slices.Min(costs))
		}
		if _, back, _ := align.Rows(b.Items, a.Items); back != cost {
			t.Errorf("%v, %v: %d, and %d turned round", a, b, cost, back)
		}
		if (cost == 0) != slices.EqualFunc(a.Items, b.Items, value.Same) {
			t.Errorf("%v, %v: %d", a, b, cost)
		}
		if !samples.Untouched(inA, a) || !samples.Untouched(inB, b) {
			t.Errorf("%v, %v were turned", a, b)
		}
	}
}

func TestRowsWrong(t *testing.T) { // P20.1
	row := func(n int) []api.Value { return slices.Repeat([]api.Value{value.Num(1)}, n) }
	wide := func(n int) api.Value { return api.Value{Kind: api.KindArray, Items: row(n)} }
	bad := []api.Value{{Kind: api.KindHole, Text: "0"}}
	for _, c := range []struct {
		a, b []api.Value
		err  api.Errno
	}{
		{bad, nil, api.ErrArg}, {nil, bad, api.ErrArg}, {row(65), bad, api.ErrArg}, {bad, row(65), api.ErrArg}, {row(65), nil, api.ErrMany}, {nil, row(65), api.ErrMany}, {[]api.Value{wide(512)}, nil, api.ErrMany}, {nil, []api.Value{wide(255), wide(256)}, api.ErrMany}, {[]api.Value{wide(2000)}, row(1), api.ErrMany}, {append(row(64), bad...), nil, api.ErrArg},
		{row(64), row(64), api.OK}, {[]api.Value{wide(511)}, []api.Value{wide(255), wide(255)}, api.OK},
	} {
		m, cost, err := align.Rows(c.a, c.b)
		if err != c.err || err != api.OK && (m != nil || cost != 0) {
			t.Errorf("%d, %d items: %v, %d, %d", len(c.a), len(c.b), m, cost, err)
		}
	}
	deep := value.Num(1)
	for range api.MaxDepth - 1 {
		deep = api.Value{Kind: api.KindArray, Items: []api.Value{deep}}
	}
	if m, cost, err := align.Rows([]api.Value{deep}, []api.Value{deep}); len(m) != 1 || cost != 0 || err != api.OK {
		t.Errorf("values as deep as may be: %v, %d, %d", m, cost, err)
	}
}

func TestGaps(t *testing.T) { // P20.2, P20.5
	for _, c := range []struct {
		n    int
		m    []api.Pair
		size int
		want [][]int
	}{
		{2, []api.Pair{{A: 0, B: 1}}, 3, [][]int{{0}, nil, {2}}}, {0, nil, 0, [][]int{nil}}, {0, nil, 2, [][]int{{0, 1}}}, {2, nil, 1, [][]int{nil, nil, {0}}}, {3, []api.Pair{{A: 1, B: 0}, {A: 2, B: 2}}, 3, [][]int{nil, nil, {1}, nil}}, {3, []api.Pair{{A: 2, B: 2}}, 3, [][]int{nil, nil, {0, 1}, nil}}, {1, []api.Pair{{A: 0, B: 0}}, 1, [][]int{nil, nil}},
	} {
		got, ok := align.Gaps(c.n, c.m, c.size)
		if !ok || !slices.EqualFunc(got, c.want, slices.Equal[[]int]) {
			t.Errorf("%d, %v, %d: %v, %v", c.n, c.m, c.size, got, ok)
		}
		for i := range got {
			_ = append(got[i], -7)
		}
		if !slices.EqualFunc(got, c.want, slices.Equal[[]int]) {
			t.Errorf("two lists of one answer share memory: %v", got)
		}
	}
	for _, c := range []struct {
		n    int
		m    []api.Pair
		size int
	}{
		{-1, nil, 0}, {0, nil, -1}, {65, nil, 0}, {0, nil, 65}, {1, []api.Pair{{A: 1, B: 0}}, 1}, {1, []api.Pair{{A: 0, B: 1}}, 1}, {2, []api.Pair{{A: 1, B: 0}, {A: 0, B: 1}}, 2}, {2, []api.Pair{{A: 0, B: 1}, {A: 1, B: 0}}, 2}, {2, []api.Pair{{A: 0, B: 0}, {A: 0, B: 1}}, 2}, {2, []api.Pair{{A: 0, B: 0}, {A: 1, B: 0}}, 2}, {1, []api.Pair{{A: -1, B: 0}}, 1}, {1, []api.Pair{{A: 0, B: -1}}, 1}, {api.MaxInt, nil, api.MinInt},
	} {
		if got, ok := align.Gaps(c.n, c.m, c.size); got != nil || ok {
			t.Errorf("%d, %v, %d: %v", c.n, c.m, c.size, got)
		}
	}
	if got, ok := align.Gaps(64, nil, 64); len(got) != 65 || len(got[64]) != 64 || !ok {
		t.Errorf("the longest rows: %v", got)
	}
	x := samples.New(41)
	for range 2000 {
		n, m := x.Under(6), x.Under(6)
		var l []api.Pair
		for i, j := x.Under(3), x.Under(3); i < n && j < m; i, j = i+1+x.Under(2), j+1+x.Under(2) {
			l = append(l, api.Pair{A: i, B: j})
		}
		gaps, ok := align.Gaps(n, l, m)
		if !ok || len(gaps) != n+1 {
			t.Fatalf("%d, %v, %d: %v", n, l, m, gaps)
		}
		var row []int
		for g := range gaps {
			row = append(row, gaps[g]...)
			if g < n && len(gaps[g]) > 0 && !slices.ContainsFunc(l, func(p api.Pair) bool { return p.A == g }) {
				t.Errorf("%d, %v, %d: %v is not the last gap that fits", n, l, m, gaps)
			}
			for _, p := range l {
				if p.A == g {
					row = append(row, p.B)
				}
			}
		}
		for j := range m {
			if len(row) != m || row[j] != j {
				t.Errorf("%d, %v, %d: %v", n, l, m, gaps)
			}
		}
	}
}

func TestImage(t *testing.T) { // P20.2, P20.3
	for _, c := range []struct {
		n    int
		m    []api.Pair
		want string
	}{
		{0, nil, ""}, {3, []api.Pair{{A: 1, B: 5}}, "-5-"}, {2, []api.Pair{{A: 0, B: 0}, {A: 1, B: 9}}, "09"}, {64, nil, strings.Repeat("-", 64)},
	} {
		got, ok := align.Image(c.n, c.m)
		text := ""
		for _, k := range got {
			text += map[bool]string{true: "-", false: string(rune('0' + k))}[k == -1]
		}
		if !ok || text != c.want {
			t.Errorf("%d, %v: %v, %v", c.n, c.m, got, ok)
		}
	}
	if got, ok := align.Image(1, []api.Pair{{A: 0, B: api.MaxInt - 1}}); !ok || got[0] != api.MaxInt-1 {
		t.Errorf("the last item of the longest row: %v, %v", got, ok)
	}
	for _, c := range []struct {
		n int
		m []api.Pair
	}{{-1, nil}, {65, nil}, {1, []api.Pair{{A: 1, B: 0}}}, {1, []api.Pair{{A: 0, B: -1}}}, {1, []api.Pair{{A: -1, B: 0}}}, {2, []api.Pair{{A: 0, B: 1}, {A: 1, B: 1}}}, {2, []api.Pair{{A: 1, B: 1}, {A: 0, B: 2}}}, {1, []api.Pair{{A: 0, B: api.MaxInt}}}, {api.MaxInt, nil}, {0, []api.Pair{{}}}} {
		if got, ok := align.Image(c.n, c.m); got != nil || ok {
			t.Errorf("%d, %v: %v", c.n, c.m, got)
		}
	}
}
