package merge_test

import (
	"slices"
	"strconv"
	"strings"
	"testing"

	"scarf/api"
	"scarf/merge"
	"scarf/pointer"
	"scarf/print"
	"scarf/read"
	"scarf/samples"
	"scarf/value"
)

// of is the value of a text, in which "hole N" stands for the hole N.
func of(t *testing.T, s string) api.Value {
	t.Helper()
	v, _, err := read.Read(s)
	if err != api.OK {
		t.Fatalf("%s: %d", s, err)
	}
	return holes(v)
}

// holes puts holes in the places of texts.
func holes(v api.Value) api.Value {
	if n, ok := strings.CutPrefix(v.Text, "hole "); ok && v.Kind == api.KindString {
		return api.Value{Kind: api.KindHole, Text: n}
	}
	for i := range v.Items {
		v.Items[i] = holes(v.Items[i])
	}
	return v
}

// text is an open tree as one, holes as texts.
func text(v api.Value) string {
	s, _ := print.Compact(plain(v))
	return s
}

// plain puts texts in the places of holes.
func plain(v api.Value) api.Value {
	if v.Kind == api.KindHole {
		return value.Of("hole " + v.Text)
	}
	w := api.Value{Kind: v.Kind, Text: v.Text, Keys: v.Keys}
	for _, item := range v.Items {
		w.Items = append(w.Items, plain(item))
	}
	return w
}

// side is one as a text; nothing of one that has nothing.
func side(s api.Side) string {
	if !s.Has {
		return "-"
	}
	return text(s.Value)
}

// told is a conflict as a text.
func told(c api.Conflict) string {
	p, _ := pointer.Text(c.Path)
	return p + " " + strconv.Itoa(c.Class) + " " + side(c.Base) + " " + side(c.Left) + " " + side(c.Right)
}

// list are conflicts as texts.
func list(l []api.Conflict) []string {
	var all []string
	for _, c := range l {
		all = append(all, told(c))
	}
	return all
}

// byId are rules by which arrays at /k and beneath it are known by id.
func byId() []api.Rule { return []api.Rule{{Pattern: []string{"k", "**"}, Key: "id"}} }

func TestMerge(t *testing.T) { // P24.1
	for _, c := range []struct {
		b, l, r, want string
		conflicts     []string
	}{
		{`{"a":1,"b":2}`, `{"a":5,"b":2}`, `{"a":1,"b":2,"c":3}`, `{"a":5,"b":2,"c":3}`, nil}, {`{"a":1}`, `{"a":2}`, `{}`, `{"a":"hole 0"}`, []string{"/a 3 1 2 -"}}, {"[1,2]", "[1,9,2]", "[1,2,3]", "[1,9,2,3]", nil},
		{"1", "2", "2", "2", nil}, {"1", "1", "2", "2", nil}, {"1", "2", "1", "2", nil}, {"1", "2", "3", `"hole 0"`, []string{" 1 1 2 3"}}, {"1", "2", "[]", `"hole 0"`, []string{" 2 1 2 []"}}, {"1", "[2]", "[3]", `"hole 0"`, []string{" 2 1 [2] [3]"}}, {"[]", "{}", "1", `"hole 0"`, []string{" 2 [] {} 1"}},
		{`{"a":1,"b":2}`, `{"b":2,"a":1}`, `{"a":1,"b":2}`, `{"b":2,"a":1}`, nil}, {`{"a":1,"b":2}`, `{"a":1,"b":2}`, `{"b":2,"a":1}`, `{"a":1,"b":2}`, nil}, {`{"a":1,"b":2}`, `{"b":3,"a":1}`, `{"a":1,"b":2,"c":0}`, `{"b":3,"a":1,"c":0}`, nil},
		{`{"a":1}`, `{}`, `{}`, `{}`, nil}, {`{"a":1}`, `{}`, `{"a":1}`, `{}`, nil}, {`{"a":1}`, `{"a":1}`, `{}`, `{}`, nil}, {`{"a":1}`, `{}`, `{"a":2}`, `{"a":"hole 0"}`, []string{"/a 3 1 - 2"}}, {`{}`, `{"a":1}`, `{"a":2}`, `{"a":"hole 0"}`, []string{"/a 4 - 1 2"}}, {`{}`, `{"a":1}`, `{"a":1.0}`, `{"a":1}`, nil}, {`{}`, `{"a":{"x":1}}`, `{"a":{"y":1}}`, `{"a":"hole 0"}`, []string{`/a 4 - {"x":1} {"y":1}`}}, {`{"x":0}`, `{"x":0,"a":1}`, `{"b":2,"x":0}`, `{"x":0,"a":1,"b":2}`, nil},
		{`{"a":{"b":{"c":1,"d":1}}}`, `{"a":{"b":{"c":2,"d":1}}}`, `{"a":{"b":{"c":1,"d":2}}}`, `{"a":{"b":{"c":2,"d":2}}}`, nil}, {`{"a":{"b":1},"z":0}`, `{"z":1,"a":{"b":2}}`, `{"a":{"b":3},"z":2}`, `{"z":"hole 0","a":{"b":"hole 1"}}`, []string{"/z 1 0 1 2", "/a/b 1 1 2 3"}},
		{"[1,2,3]", "[1,3]", "[1,2,4]", "[1,4]", nil}, {"[1,2,3]", "[1,3]", "[1,9,3]", `[1,"hole 0",3]`, []string{"/1 3 2 - 9"}}, {"[]", "[1]", "[2]", `["hole 0"]`, []string{"/+0 5 [] [1] [2]"}}, {"[]", "[1,2]", "[1,2.0]", "[1,2]", nil}, {"[5]", "[1,5,2]", "[3,5,4]", `["hole 0",5,"hole 1"]`, []string{"/+0 5 [] [1] [3]", "/+1 5 [] [2] [4]"}}, {"[5]", "[1,5]", "[5,4]", "[1,5,4]", nil}, {"[5]", "[1,5,2]", "[1,5]", "[1,5,2]", nil}, {"[5]", "[1,2,5,2]", "[1,2.0,5,3]", `[1,2,5,"hole 0"]`, []string{"/+1 5 [] [2] [3]"}}, {"[5]", "[1,5,2]", "[5]", "[1,5,2]", nil}, {"[5]", "[7,5]", "[7,8,5]", `["hole 0",5]`, []string{"/+0 5 [] [7] [7,8]"}},
		{"[[1,2],[3]]", "[[1,7],[3]]", "[[1,8],[3]]", `[[1,"hole 0"],[3]]`, []string{"/0/1 1 2 7 8"}}, {`[{"a":1,"b":1}]`, `[{"a":2,"b":1}]`, `[{"a":1,"b":2}]`, `[{"a":2,"b":2}]`, nil}, {"[1,2,3]", "[7,2,3]", "[1,2,8]", "[7,2,8]", nil},
		{`{"k":[{"id":1,"x":1},{"id":2,"x":2}]}`, `{"k":[{"id":2,"x":3},{"id":1,"x":1}]}`, `{"k":[{"id":1,"x":5},{"id":2,"x":2},{"id":3}]}`, `{"k":[{"id":2,"x":3},{"id":1,"x":5},{"id":3}]}`, nil},
		{`{"k":[{"id":1},{"id":"a","x":1}]}`, `{"k":[{"id":"a","x":2}]}`, `{"k":[{"id":1,"y":0},{"id":"a","x":3}]}`, `{"k":["hole 1",{"id":"a","x":"hole 0"}]}`, []string{`/k/="a"/x 1 1 2 3`, `/k/=1 3 {"id":1} - {"id":1,"y":0}`}},
		{`{"k":[]}`, `{"k":[{"id":1},{"id":2}]}`, `{"k":[{"id":2},{"id":1}]}`, `{"k":"hole 0"}`, []string{`/k 6 [] [{"id":1},{"id":2}] [{"id":2},{"id":1}]`}},
		{`{"a":0,"k":[{"id":9,"x":0}],"z":0}`, `{"a":1,"k":[{"id":1},{"id":2},{"id":9,"x":1}],"z":1}`, `{"a":2,"k":[{"id":2},{"id":1},{"id":9,"x":2}],"z":2}`, `{"a":"hole 0","k":"hole 1","z":"hole 2"}`, []string{"/a 1 0 1 2", `/k 6 [{"id":9,"x":0}] [{"id":1},{"id":2},{"id":9,"x":1}] [{"id":2},{"id":1},{"id":9,"x":2}]`, "/z 1 0 1 2"}},
		{`{"k":[{"id":1},{"id":1}]}`, `{"k":[{"id":1},{"id":1},{"id":3}]}`, `{"k":[{"id":2},{"id":1}]}`, `{"k":[{"id":2},{"id":1},{"id":3}]}`, nil}, {`{"k":[{"id":1,"s":[{"id":2,"t":0}]}]}`, `{"k":[{"id":1,"s":[{"id":2,"t":1}]}]}`, `{"k":[{"id":1,"s":[{"id":3},{"id":2,"t":2}]}]}`, `{"k":[{"id":1,"s":[{"id":3},{"id":2,"t":"hole 0"}]}]}`, []string{"/k/=1/s/=2/t 1 0 1 2"}},
		{`{"k":[{"id":1}]}`, `{"k":[]}`, `{"k":[{"id":1},{"id":2}]}`, `{"k":[{"id":2}]}`, nil}, {`{"k":[{"id":1}]}`, `{"k":{"id":1}}`, `{"k":[]}`, `{"k":"hole 0"}`, []string{`/k 2 [{"id":1}] {"id":1} []`}}, {`{"k":[{"id":1},{"id":2}]}`, `{"k":[{"id":1}]}`, `{"k":[{"id":2}]}`, `{"k":[]}`, nil},
	} {
		v, l, err := merge.Merge(of(t, c.b), of(t, c.l), of(t, c.r), byId())
		if text(v) != c.want || !slices.Equal(list(l), c.conflicts) || err != api.OK {
			t.Errorf("%s; %s; %s: %s, %q, %d", c.b, c.l, c.r, text(v), list(l), err)
		}
	}
}

func TestMergeMuch(t *testing.T) { // P24.1
	var b, l, r []string
	for i := range 12 {
		key := `"` + string(rune('a'+i)) + `":`
		b, l, r = append(b, key+"0"), append(l, key+"1"), append(r, key+"2")
	}
	wrap := func(l []string) api.Value { return of(t, "{"+strings.Join(l, ",")+"}") }
	v, conflicts, err := merge.Merge(wrap(b), wrap(l), wrap(r), nil)
	if len(conflicts) != 12 || err != api.OK || v.Items[10].Text != "1e1" || v.Items[11].Text != "11" || conflicts[10].Path[0] != "k" || !value.Open(v) {
		t.Errorf("%s, %d", text(v), err)
	}
	wide := func(n int, last string) api.Value { return of(t, "["+strings.Repeat("0,", n)+last+"]") }
	if v, l, err := merge.Merge(wide(64, "0"), wide(64, "1"), wide(64, "2"), nil); text(v) != `"hole 0"` || len(l) != 1 || l[0].Class != api.ClassChange || err != api.OK {
		t.Errorf("rows that are too long: %s, %q", text(v), list(l))
	}
	if v, l, err := merge.Merge(wide(63, "0"), wide(64, "1"), wide(63, "2"), nil); text(v) != `"hole 0"` || len(l) != 1 || err != api.OK {
		t.Errorf("one row that is too long: %s, %q", text(v), list(l))
	}
	if v, l, err := merge.Merge(wide(63, "0"), wide(63, "1"), wide(63, "0"), nil); len(v.Items) != 64 || len(l) != 0 || err != api.OK {
		t.Errorf("rows as long as may be: %s, %q", text(v), list(l))
	}
	many := func(key string) api.Value {
		return api.Value{Kind: api.KindObject, Keys: []string{key}, Items: []api.Value{{Kind: api.KindArray, Items: slices.Repeat([]api.Value{value.Num(1)}, 2500)}}}
	}
	if v, l, err := merge.Merge(of(t, "{}"), many("a"), many("b"), nil); !samples.Zero(v) || l != nil || err != api.ErrMany {
		t.Errorf("too many nodes: %d", err)
	}
}

func TestMergeWrong(t *testing.T) { // P24.1
	one := value.Num(1)
	for _, bad := range []api.Value{{}, {Kind: api.KindHole, Text: "0"}, value.Of("\xff")} {
		for _, c := range [][3]api.Value{{bad, one, one}, {one, bad, one}, {one, one, bad}, {bad, bad, bad}} {
			if v, l, err := merge.Merge(c[0], c[1], c[2], nil); !samples.Zero(v) || l != nil || err != api.ErrArg {
				t.Errorf("%v: %v, %v, %d", c, v, l, err)
			}
		}
	}
	for _, list := range [][]api.Rule{{{Key: "\xff"}}, slices.Repeat([]api.Rule{{}}, api.MaxRules+1), {{Pattern: slices.Repeat([]string{"a"}, 65)}}} {
		if v, l, err := merge.Merge(one, one, one, list); !samples.Zero(v) || l != nil || err != api.ErrArg {
			t.Errorf("%v: %v, %v, %d", list, v, l, err)
		}
	}
}

func TestSide(t *testing.T) { // P24.2
	some := func(n int) api.Side { return api.Side{Has: true, Value: value.Num(n)} }
	c := api.Conflict{Base: some(0), Left: some(1)}
	for pick, want := range map[int]string{api.PickBase: "0", api.PickLeft: "1", api.PickRight: "-"} {
		if s, ok := merge.Side(c, pick); !ok || side(s) != want {
			t.Errorf("%d: %v, %v", pick, s, ok)
		}
	}
	for _, pick := range []int{-1, 3, api.MinInt, api.MaxInt} {
		if s, ok := merge.Side(c, pick); ok || s.Has || !samples.Zero(s.Value) {
			t.Errorf("%d: %v, %v", pick, s, ok)
		}
	}
	c.Right = api.Side{Has: true, Value: api.Value{Kind: api.KindNumber, Text: "10"}}
	if s, ok := merge.Side(c, api.PickRight); !ok || !s.Has || !samples.Zero(s.Value) {
		t.Errorf("%v, %v", s, ok)
	}
	c.Right.Value = api.Value{Kind: api.KindHole, Text: "0"}
	if s, ok := merge.Side(c, api.PickRight); !ok || s.Value.Kind != api.KindHole {
		t.Errorf("%v, %v", s, ok)
	}
}

// con is a conflict of a class with sides; nothing of a "-".
func con(t *testing.T, class int, sides ...string) api.Conflict {
	t.Helper()
	c := api.Conflict{Class: class}
	for i, s := range []*api.Side{&c.Base, &c.Left, &c.Right} {
		if sides[i] != "-" {
			*s = api.Side{Has: true, Value: of(t, sides[i])}
		}
	}
	return c
}

func TestChoose(t *testing.T) { // P24.3
	change, drop := con(t, api.ClassChange, "0", "1", "[2]"), con(t, api.ClassDrop, "0", "-", "2")
	insert := con(t, api.ClassInsert, "[]", "[1,[2]]", "[3]")
	none := con(t, api.ClassInsert, "-", "[1]", "[]")
	for _, c := range []struct {
		v    string
		l    []api.Conflict
		pick []int
		want string
		err  api.Errno
	}{
		{"[1]", nil, nil, "[1]", api.OK}, {`"hole 0"`, []api.Conflict{change}, []int{2}, "[2]", api.OK}, {`"hole 0"`, []api.Conflict{change}, []int{0}, "0", api.OK}, {`{"a":"hole 1","b":["hole 0"]}`, []api.Conflict{change, drop}, []int{1, 2}, `{"a":2,"b":[1]}`, api.OK}, {`{"a":"hole 0","b":1}`, []api.Conflict{drop}, []int{1}, `{"b":1}`, api.OK}, {`[1,"hole 0",2]`, []api.Conflict{drop}, []int{1}, "[1,2]", api.OK}, {`"hole 0"`, []api.Conflict{drop}, []int{1}, "", api.ErrNone}, {`"hole 0"`, []api.Conflict{drop}, []int{0}, "0", api.OK},
		{`[0,"hole 0",9]`, []api.Conflict{insert}, []int{1}, "[0,1,[2],9]", api.OK}, {`[0,"hole 0",9]`, []api.Conflict{insert}, []int{0}, "[0,9]", api.OK}, {`{"a":"hole 0"}`, []api.Conflict{insert}, []int{1}, `{"a":[1,[2]]}`, api.OK}, {`"hole 0"`, []api.Conflict{insert}, []int{2}, "[3]", api.OK}, {`[["hole 0"]]`, []api.Conflict{insert}, []int{2}, "[[3]]", api.OK}, {`["hole 0",1]`, []api.Conflict{none}, []int{0}, "[1]", api.OK}, {`"hole 0"`, []api.Conflict{none}, []int{0}, "", api.ErrNone}, {`["hole 0"]`, []api.Conflict{change}, []int{2}, "[[2]]", api.OK},
		{"1", []api.Conflict{change}, []int{0}, "", api.ErrArg}, {`"hole 0"`, nil, nil, "", api.ErrArg}, {`"hole 1"`, []api.Conflict{change}, []int{0}, "", api.ErrArg}, {`["hole 0","hole 0"]`, []api.Conflict{change}, []int{0}, "", api.ErrArg}, {`["hole 0","hole 0"]`, []api.Conflict{change, change}, []int{0, 0}, "", api.ErrArg}, {`["hole 0","hole 1","hole 0"]`, []api.Conflict{change, change}, []int{0, 0}, "", api.ErrArg}, {`["hole 0","hole 2"]`, []api.Conflict{change, change}, []int{0, 0}, "", api.ErrArg}, {`["hole 9223372036854775807"]`, []api.Conflict{change}, []int{0}, "", api.ErrArg},
		{`"hole 0"`, []api.Conflict{change}, nil, "", api.ErrArg}, {`"hole 0"`, []api.Conflict{change}, []int{0, 0}, "", api.ErrArg}, {`"hole 0"`, []api.Conflict{change}, []int{3}, "", api.ErrArg}, {`"hole 0"`, []api.Conflict{change}, []int{-1}, "", api.ErrArg}, {`"hole 0"`, []api.Conflict{drop}, []int{3}, "", api.ErrArg},
		{`"hole 0"`, []api.Conflict{con(t, api.ClassChange, "0", "1", `"hole 0"`)}, []int{0}, "", api.ErrArg}, {`"hole 0"`, []api.Conflict{con(t, api.ClassInsert, "[]", "1", "[]")}, []int{0}, "", api.ErrArg}, {`"hole 0"`, []api.Conflict{con(t, api.ClassInsert, "{}", "[]", "[]")}, []int{1}, "", api.ErrArg}, {`"hole 0"`, []api.Conflict{con(t, 0, "0", "{}", "[]")}, []int{1}, "{}", api.OK}, {`"hole 0"`, []api.Conflict{con(t, api.ClassDrop, "-", `["hole 1"]`, "-")}, []int{0}, "", api.ErrArg},
	} {
		if v, err := merge.Choose(of(t, c.v), c.l, c.pick); text(v) != c.want || err != c.err {
			t.Errorf("%s, %q, %v: %s, %d", c.v, list(c.l), c.pick, text(v), err)
		}
	}
	for _, v := range []api.Value{{}, {Kind: api.KindHole, Text: "-1"}} {
		if w, err := merge.Choose(v, nil, nil); !samples.Zero(w) || err != api.ErrArg {
			t.Errorf("%v: %v, %d", v, w, err)
		}
	}
	deep := value.Num(1)
	for range api.MaxDepth - 1 {
		deep = api.Value{Kind: api.KindArray, Items: []api.Value{deep}}
	}
	c := con(t, api.ClassKind, "0", "0", "0")
	c.Left.Value = deep
	if v, err := merge.Choose(of(t, `["hole 0"]`), []api.Conflict{c}, []int{1}); !samples.Zero(v) || err != api.ErrArg {
		t.Errorf("too deep: %d", err)
	}
	c.Class = api.ClassInsert
	c.Base.Value, c.Right.Value = of(t, "[]"), of(t, "[]")
	if v, err := merge.Choose(of(t, `["hole 0"]`), []api.Conflict{c}, []int{1}); value.Depth(v) != api.MaxDepth || err != api.OK {
		t.Errorf("items one level higher: %d", err)
	}
	many := make([]api.Conflict, 12)
	v := api.Value{Kind: api.KindArray}
	picks := make([]int, 12)
	for k := range many {
		many[k] = con(t, api.ClassChange, strconv.Itoa(k), "0", "0")
		v.Items = append(v.Items, api.Value{Kind: api.KindHole, Text: value.Num(k).Text})
	}
	if w, err := merge.Choose(v, many, picks); text(w) != "[0,1,2,3,4,5,6,7,8,9,1e1,11]" || err != api.OK {
		t.Errorf("%s, %d", text(w), err)
	}
}

// sides is how a conflict is turned round.
func turned(c api.Conflict) api.Conflict {
	c.Left, c.Right = c.Right, c.Left
	return c
}

func TestLaws(t *testing.T) { // P24.4, P24.5, P24.6, P24.7, P24.8
	x := samples.New(46)
	all := samples.Values(46, 150)
	list3 := []api.Rule{{Pattern: []string{"**"}, Key: "id"}}
	without, with := 0, 0
	for _, b := range all {
		l, r := x.Turned(x.Turned(b)), x.Turned(x.Turned(x.Turned(b)))
		for _, c := range [][2]api.Value{{l, r}, {l, b}, {b, r}, {l, l}} {
			inB, inL, inR := samples.Roomy(b), samples.Roomy(c[0]), samples.Roomy(c[1])
			v, conflicts, err := merge.Merge(inB, inL, inR, list3)
			if err != api.OK || !value.Open(v) {
				t.Fatalf("%v, %v, %v: %d", b, c[0], c[1], err)
			}
			back, round, _ := merge.Merge(b, c[1], c[0], list3)
			one, other := list(conflicts), []string{}
			for _, k := range round {
				other = append(other, told(turned(k)))
			}
			slices.Sort(one)
			slices.Sort(other)
			if !slices.Equal(one, other) || len(conflicts) == 0 && !value.Same(v, back) {
				t.Errorf("%s; %s; %s: %q, turned round %q", text(b), text(c[0]), text(c[1]), one, other)
			}
			if len(conflicts) == 0 {
				without++
			} else {
				with++
			}
			if value.Same(c[1], b) && !(value.Same(v, c[0]) && len(conflicts) == 0) || value.Same(c[0], b) && !(value.Same(v, c[1]) && len(conflicts) == 0) || value.Same(c[0], c[1]) && !(value.Same(v, c[0]) && len(conflicts) == 0) {
				t.Errorf("%s; %s; %s: %s", text(b), text(c[0]), text(c[1]), text(v))
			}
			check(t, b, c[0], c[1], v, conflicts)
			old, kept := text(v), list(conflicts)
			for _, k := range conflicts {
				samples.Spoil(k.Base.Value)
				samples.Spoil(k.Left.Value)
				_ = append(k.Path, "spoilt")
			}
			if text(v) != old {
				t.Errorf("two lists of one answer share memory: %s", text(v))
			}
			for i, k := range conflicts {
				if side(k.Right) != kept[i][strings.LastIndex(kept[i], " "+side(k.Right))+1:] {
					t.Errorf("two lists of one answer share memory: %q", kept[i])
				}
			}
			samples.Spoil(v)
			if !samples.Untouched(inB, b) || !samples.Untouched(inL, c[0]) || !samples.Untouched(inR, c[1]) {
				t.Errorf("%v, %v, %v were turned", b, c[0], c[1])
			}
		}
	}
	if without < 100 || with < 20 {
		t.Errorf("%d merges without conflicts, %d with", without, with)
	}
}

// check looks at members that one side alone changed, and at what may be chosen.
func check(t *testing.T, b, l, r, v api.Value, conflicts []api.Conflict) {
	t.Helper()
	if len(conflicts) == 0 && b.Kind == api.KindObject && l.Kind == api.KindObject && r.Kind == api.KindObject {
		for _, key := range slices.Concat(b.Keys, l.Keys, r.Keys) {
			x, hasX := value.Get(b, key)
			y, hasY := value.Get(l, key)
			z, hasZ := value.Get(r, key)
			got, has := value.Get(v, key)
			if hasX == hasY && (!hasX || value.Same(x, y)) && (has != hasZ || has && !value.Same(got, z)) || hasX == hasZ && (!hasX || value.Same(x, z)) && (has != hasY || has && !value.Same(got, y)) {
				t.Errorf("%s; %s; %s: %s at %q", text(b), text(l), text(r), text(v), key)
			}
		}
	}
	for pick := range 3 {
		in := samples.Roomy(v)
		w, err := merge.Choose(in, conflicts, slices.Repeat([]int{pick}, len(conflicts)))
		if err == api.ErrNone && v.Kind == api.KindHole {
			continue
		}
		if err != api.OK || !value.Right(w) {
			t.Errorf("%s, %q, %d: %s, %d", text(v), list(conflicts), pick, text(w), err)
		}
		if again, l, _ := merge.Merge(b, w, b, nil); pick == api.PickLeft && (!value.Same(again, w) || len(l) != 0) {
			t.Errorf("%s over %s: %s", text(w), text(b), text(again))
		}
		samples.Spoil(w)
		if !samples.Untouched(in, v) {
			t.Errorf("%s was turned", text(v))
		}
	}
}

func TestChooseNewMemory(t *testing.T) { // P24.4
	c := con(t, api.ClassChange, "0", "[1,[2]]", `{"a":[3]}`)
	c.Left.Value, c.Right.Value = samples.Roomy(c.Left.Value), samples.Roomy(c.Right.Value)
	for pick := 1; pick <= 2; pick++ {
		v, _ := merge.Choose(of(t, `["hole 0"]`), []api.Conflict{c}, []int{pick})
		samples.Spoil(v)
		s, _ := merge.Side(c, pick)
		samples.Spoil(s.Value)
	}
	if !samples.Untouched(c.Left.Value, of(t, "[1,[2]]")) || !samples.Untouched(c.Right.Value, of(t, `{"a":[3]}`)) {
		t.Error("what was handed in was turned")
	}
	v, l, _ := merge.Merge(of(t, `{"a":1}`), of(t, `{"a":2}`), of(t, `{"a":3}`), nil)
	l[0].Path[0] = "spoilt"
	if w, m, _ := merge.Merge(of(t, `{"a":1}`), of(t, `{"a":2}`), of(t, `{"a":3}`), nil); !samples.Same(v, w) || m[0].Path[0] != "a" {
		t.Error("an answer is no new memory")
	}
}
