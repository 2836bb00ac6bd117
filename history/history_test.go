package history_test

import (
	"slices"
	"testing"

	"scarf/api"
	"scarf/history"
	"scarf/merge"
	"scarf/print"
	"scarf/read"
	"scarf/samples"
	"scarf/value"
)

// of is the value of a text.
func of(t *testing.T, s string) api.Value {
	t.Helper()
	v, _, err := read.Read(s)
	if err != api.OK {
		t.Fatalf("%s: %d", s, err)
	}
	return v
}

// text is a value as one; nothing of a tree that is zero.
func text(v api.Value) string {
	s, _ := print.Compact(v)
	return s
}

// commit is one of a value's text.
func commit(t *testing.T, s string, parents ...int) api.Commit {
	t.Helper()
	return api.Commit{Parents: parents, Value: of(t, s)}
}

// row are so many commits, each out of the one ahead of it.
func row(n int) []api.Commit {
	var h []api.Commit
	for k := range n {
		c := api.Commit{Value: value.Num(k)}
		if k > 0 {
			c.Parents = []int{k - 1}
		}
		h = append(h, c)
	}
	return h
}

// shape is a history of numbers, with parents.
func shape(parents ...[]int) []api.Commit {
	var h []api.Commit
	for k, p := range parents {
		h = append(h, api.Commit{Parents: p, Value: value.Num(k)})
	}
	return h
}

// wrong are histories that are not right.
func wrong() [][]api.Commit {
	return [][]api.Commit{
		row(api.MaxCommits + 1), shape([]int{0}), shape(nil, []int{1}), shape(nil, []int{2}), shape(nil, []int{-1}), shape(nil, nil, []int{0, 0}), shape(nil, nil, []int{1, 0}), {{}}, {{Value: value.Num(1)}, {Value: api.Value{Kind: api.KindHole, Text: "0"}}}, {{Value: value.Of("\xff")}}, shape(nil, []int{api.MaxInt}), shape(nil, []int{api.MinInt}),
	}
}

func TestRightAndAdd(t *testing.T) { // P31.1
	for _, h := range [][]api.Commit{nil, {}, row(1), row(api.MaxCommits), shape(nil, nil, []int{0, 1}, nil, []int{0, 2, 3})} {
		if !history.Right(h) {
			t.Errorf("%v", h)
		}
	}
	c := commit(t, "[1]")
	for _, h := range wrong() {
		l, err := history.Add(h, c)
		v, e := history.Base(h, 0, 0, nil)
		w, m, f := history.Merge(h, 0, 0, nil)
		if history.Right(h) || l != nil || err != api.ErrArg || len(history.Above(h, 0)) != 0 || len(history.Bases(h, 0, 0)) != 0 || !samples.Zero(v) || e != api.ErrArg || !samples.Zero(w) || m != nil || f != api.ErrArg {
			t.Errorf("%.100v", h)
		}
	}
	h, err := history.Add(nil, c)
	if len(h) != 1 || err != api.OK {
		t.Fatal(err)
	}
	h, err = history.Add(h, commit(t, "2", 0))
	if len(h) != 2 || text(h[0].Value) != "[1]" || text(h[1].Value) != "2" || !slices.Equal(h[1].Parents, []int{0}) || err != api.OK {
		t.Errorf("%v, %d", h, err)
	}
	for _, c := range []api.Commit{{}, {Parents: []int{2}, Value: value.Num(1)}, {Parents: []int{-1}, Value: value.Num(1)}, {Parents: []int{1, 0}, Value: value.Num(1)}, {Parents: []int{0, 0}, Value: value.Num(1)}, {Value: value.Of("\xff")}} {
		if l, err := history.Add(h, c); l != nil || err != api.ErrArg {
			t.Errorf("%v: %v, %d", c, l, err)
		}
		if l, err := history.Add(row(api.MaxCommits), api.Commit{Parents: []int{64}, Value: value.Num(1)}); l != nil || err != api.ErrArg {
			t.Errorf("%v, %d", l, err)
		}
	}
	if l, err := history.Add(row(api.MaxCommits), c); l != nil || err != api.ErrFull {
		t.Errorf("%v, %d", l, err)
	}
	if l, err := history.Add(row(api.MaxCommits-1), c); len(l) != api.MaxCommits || err != api.OK {
		t.Errorf("%d", err)
	}
}

func TestAboveAndBases(t *testing.T) { // P31.2
	h := shape(nil, []int{0}, []int{0}, []int{1, 2}, []int{1, 2}, nil, []int{3, 5}, []int{4, 5})
	for k, want := range [][]int{{0}, {0, 1}, {0, 2}, {0, 1, 2, 3}, {0, 1, 2, 4}, {5}, {0, 1, 2, 3, 5, 6}, {0, 1, 2, 4, 5, 7}} {
		if l := history.Above(h, k); !slices.Equal(l, want) {
			t.Errorf("%d: %v", k, l)
		}
	}
	for _, c := range []struct {
		a, b int
		want []int
	}{{3, 4, []int{1, 2}}, {4, 3, []int{1, 2}}, {0, 3, []int{0}}, {1, 2, []int{0}}, {3, 3, []int{3}}, {0, 5, nil}, {6, 7, []int{1, 2, 5}}, {6, 5, []int{5}}, {5, 5, []int{5}}, {7, 1, []int{1}}} {
		if l := history.Bases(h, c.a, c.b); !slices.Equal(l, c.want) {
			t.Errorf("%d, %d: %v", c.a, c.b, l)
		}
	}
	if l := history.Bases(shape(nil, []int{0}, []int{1}), 1, 2); !slices.Equal(l, []int{1}) {
		t.Errorf("%v", l)
	}
	for _, k := range []int{-1, 8, api.MinInt, api.MaxInt} {
		v, e := history.Base(h, k, 0, nil)
		w, f := history.Base(h, 0, k, nil)
		m, l, g := history.Merge(h, 0, k, nil)
		if len(history.Above(h, k)) != 0 || len(history.Bases(h, k, 0)) != 0 || len(history.Bases(h, 0, k)) != 0 || !samples.Zero(v) || !samples.Zero(w) || !samples.Zero(m) || l != nil || e != api.ErrArg || f != api.ErrArg || g != api.ErrArg {
			t.Errorf("%d", k)
		}
	}
}

func TestBaseAndMerge(t *testing.T) { // P31.3
	cross := []api.Commit{commit(t, `{"x":0,"y":0,"z":0}`), commit(t, `{"x":1,"y":0,"z":1}`, 0), commit(t, `{"x":0,"y":2,"z":2}`, 0), commit(t, `{"x":1,"y":2,"z":3}`, 1, 2), commit(t, `{"x":1,"y":2,"z":0,"w":4}`, 1, 2)}
	if v, err := history.Base(cross, 3, 4, nil); text(v) != `{"x":1,"y":2,"z":0}` || err != api.OK {
		t.Errorf("%s, %d", text(v), err)
	}
	if v, l, err := history.Merge(cross, 3, 4, nil); text(v) != `{"x":1,"y":2,"z":3,"w":4}` || len(l) != 0 || err != api.OK {
		t.Errorf("%s, %v, %d", text(v), l, err)
	}
	apart := []api.Commit{commit(t, "[1]"), commit(t, "[2]"), commit(t, "3", 0, 1), commit(t, "4", 0, 1)}
	if v, err := history.Base(apart, 2, 3, nil); text(v) != "null" || err != api.OK {
		t.Errorf("%s, %d", text(v), err)
	}
	if v, l, err := history.Merge(apart, 2, 3, nil); v.Kind != api.KindHole || len(l) != 1 || l[0].Class != api.ClassKind || text(l[0].Base.Value) != "null" || err != api.OK {
		t.Errorf("%v, %v, %d", v, l, err)
	}
	three := []api.Commit{commit(t, `{"a":1}`), commit(t, `{"b":1}`), commit(t, `{"a":1}`), commit(t, "3", 0, 1, 2), commit(t, "4", 0, 1, 2)}
	if v, err := history.Base(three, 3, 4, nil); text(v) != `{"a":1}` || err != api.OK {
		t.Errorf("%s, %d", text(v), err)
	}
	for _, c := range [][2]int{{0, 1}, {1, 0}, {0, 2}} {
		v, err := history.Base(three, c[0], c[1], nil)
		w, l, e := history.Merge(three, c[0], c[1], nil)
		if !samples.Zero(v) || err != api.ErrNone || !samples.Zero(w) || l != nil || e != api.ErrNone {
			t.Errorf("%v: %v, %d", c, v, err)
		}
	}
	for _, list := range [][]api.Rule{{{Key: "\xff"}}, slices.Repeat([]api.Rule{{}}, api.MaxRules+1)} {
		v, err := history.Base(three, 0, 1, list)
		w, l, e := history.Merge(three, 0, 1, list)
		if !samples.Zero(v) || err != api.ErrArg || !samples.Zero(w) || l != nil || e != api.ErrArg {
			t.Errorf("%v: %v, %d", list, v, err)
		}
	}
	keyed := []api.Commit{commit(t, `[{"id":1},{"id":2}]`), commit(t, `[{"id":2},{"id":1}]`, 0), commit(t, `[{"id":1,"v":0},{"id":2}]`, 0)}
	if v, l, err := history.Merge(keyed, 1, 2, []api.Rule{{Key: "id"}}); text(v) != `[{"id":2},{"id":1,"v":0}]` || len(l) != 0 || err != api.OK {
		t.Errorf("%s, %v, %d", text(v), l, err)
	}
	wide := func(key string) api.Value {
		return api.Value{Kind: api.KindObject, Keys: []string{key}, Items: []api.Value{{Kind: api.KindArray, Items: slices.Repeat([]api.Value{value.Num(1)}, 2500)}}}
	}
	great := []api.Commit{commit(t, "{}"), {Parents: []int{0}, Value: wide("a")}, {Parents: []int{0}, Value: wide("b")}, commit(t, "1", 1, 2), commit(t, "1", 1, 2), commit(t, "1", 3, 4), commit(t, "1", 3, 4)}
	for _, c := range [][2]int{{3, 4}, {5, 6}} {
		v, err := history.Base(great, c[0], c[1], nil)
		w, l, e := history.Merge(great, c[0], c[1], nil)
		if !samples.Zero(v) || err != api.ErrMany || !samples.Zero(w) || l != nil || e != api.ErrMany {
			t.Errorf("%v: %v, %d", c, v, err)
		}
	}
	if w, l, e := history.Merge(great, 1, 2, nil); !samples.Zero(w) || l != nil || e != api.ErrMany {
		t.Errorf("%d", e)
	}
}

func TestManyBases(t *testing.T) { // P31.3
	h := shape(nil, nil)
	for k := 2; k < api.MaxCommits; k += 2 {
		h = append(h, api.Commit{Parents: []int{k - 2, k - 1}, Value: value.Num(k)}, api.Commit{Parents: []int{k - 2, k - 1}, Value: value.Num(k + 1)})
	}
	if v, err := history.Base(h, 62, 63, nil); text(v) != "null" || err != api.OK {
		t.Errorf("%s, %d", text(v), err)
	}
	if l := history.Bases(h, 62, 63); !slices.Equal(l, []int{60, 61}) {
		t.Errorf("%v", l)
	}
	// Each four come out of the four ahead of them: if base values were found anew for each pair, there would be no end of it.
	deep := shape(nil, nil, nil, nil)
	for k := 4; k < api.MaxCommits; k++ {
		from := k - k%4
		deep = append(deep, api.Commit{Parents: []int{from - 4, from - 3, from - 2, from - 1}, Value: value.Num(k)})
	}
	if v, err := history.Base(deep, len(deep)-1, len(deep)-2, nil); v.Kind == 0 || err != api.OK || len(history.Bases(deep, len(deep)-1, len(deep)-2)) != 4 {
		t.Errorf("%s, %d", text(v), err)
	}
	wide := shape(nil)
	for range 30 {
		wide = append(wide, api.Commit{Parents: []int{0}, Value: of(t, `{"a":1}`)})
	}
	var all []int
	for k := 1; k < len(wide); k++ {
		all = append(all, k)
	}
	n := len(wide)
	for range 30 {
		wide = append(wide, api.Commit{Parents: all, Value: of(t, `{"a":1,"b":2}`)})
	}
	if v, err := history.Base(wide, n, n+1, nil); text(v) != `{"a":1}` || err != api.OK || len(history.Bases(wide, n, n+1)) != 30 {
		t.Errorf("%s, %d", text(v), err)
	}
}

// isAbove tells whether one commit is above another one.
func isAbove(h []api.Commit, a, b int) bool {
	return a == b || slices.ContainsFunc(h[b].Parents, func(p int) bool { return isAbove(h, a, p) })
}

// base is the base value, as the document tells it.
func base(h []api.Commit, a, b int) (api.Value, bool) {
	l := history.Bases(h, a, b)
	if len(l) == 0 {
		return api.Value{}, false
	}
	v := h[l[0]].Value
	for _, c := range l[1:] {
		over, ok := base(h, l[0], c)
		if !ok {
			over = api.Value{Kind: api.KindNull}
		}
		w, conflicts, _ := merge.Merge(over, v, h[c].Value, nil)
		v, _ = merge.Choose(w, conflicts, make([]int, len(conflicts)))
	}
	return v, true
}

func TestLaws(t *testing.T) { // P31.4, P31.5, P31.6, P31.7
	x := samples.New(67)
	values := samples.Values(67, 300)
	several := 0
	for round := range 280 {
		var h, old []api.Commit
		for k := range 1 + x.Under(9) {
			c := api.Commit{Value: x.Turned(values[round])}
			for p := range k {
				if x.Under(3) == 0 {
					c.Parents = append(c.Parents, p)
				}
			}
			in := api.Commit{Parents: slices.Clone(c.Parents), Value: samples.Roomy(c.Value)}
			next, err := history.Add(h, in)
			if err != api.OK {
				t.Fatal(err)
			}
			if !samples.Untouched(in.Value, c.Value) {
				t.Error("what was handed in was turned")
			}
			for _, one := range h {
				samples.Spoil(one.Value)
				for i := range one.Parents {
					one.Parents[i] = -7
				}
			}
			h, old = next, append(old, c)
		}
		for a := range h {
			if samples.Same(h[a].Value, old[a].Value) && slices.Equal(h[a].Parents, old[a].Parents) {
				continue
			}
			t.Fatalf("an answer is no new memory: %v", h[a])
		}
		for a := range h {
			for b := range h {
				l := history.Bases(h, a, b)
				if len(l) > 1 {
					several++
				}
				for k := range h {
					both := isAbove(h, k, a) && isAbove(h, k, b)
					below := func(m int) bool { return m != k && isAbove(h, k, m) && isAbove(h, m, a) && isAbove(h, m, b) }
					is := both && !below(0)
					for m := range h {
						is = is && !below(m)
					}
					if is != slices.Contains(l, k) || isAbove(h, k, b) != slices.Contains(history.Above(h, b), k) {
						t.Errorf("%v: %d, %d: %v", h, a, b, l)
					}
					if both && !slices.ContainsFunc(l, func(m int) bool { return isAbove(h, k, m) }) {
						t.Errorf("%v: %d, %d: %v has nothing beneath %d", h, a, b, l, k)
					}
				}
				want, ok := base(h, a, b)
				v, err := history.Base(h, a, b, nil)
				if !samples.Same(v, want) || (err == api.OK) != ok {
					t.Errorf("%v: %d, %d: %v, %d, not %v", h, a, b, v, err, want)
				}
				w, conflicts, err := history.Merge(h, a, b, nil)
				if isAbove(h, a, b) && (!slices.Equal(l, []int{a}) || !value.Same(w, h[b].Value) || len(conflicts) != 0 || err != api.OK) {
					t.Errorf("%v: %d, %d: %v, %v", h, a, b, l, w)
				}
				if isAbove(h, b, a) && (!slices.Equal(l, []int{b}) || !value.Same(w, h[a].Value) || len(conflicts) != 0) {
					t.Errorf("%v: %d, %d: %v, %v", h, a, b, l, w)
				}
				cut := h[:max(a, b)+1]
				first, _, e := history.Merge(cut, a, b, nil)
				if !slices.Equal(history.Bases(cut, a, b), l) || !samples.Same(first, w) || e != err {
					t.Errorf("%v: %d, %d turned by more commits", h, a, b)
				}
				samples.Spoil(v)
				samples.Spoil(w)
				for i := range l {
					l[i] = -7
				}
				if !samples.Same(h[a].Value, old[a].Value) || !samples.Same(h[b].Value, old[b].Value) {
					t.Fatal("what was handed in was turned")
				}
			}
		}
	}
	if several < 100 {
		t.Errorf("only %d pairs with several bases", several)
	}
}
