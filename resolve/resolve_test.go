package resolve_test

import (
	"slices"
	"strconv"
	"strings"
	"testing"

	"scarf/api"
	"scarf/merge"
	"scarf/print"
	"scarf/read"
	"scarf/resolve"
	"scarf/samples"
	"scarf/value"
)

// of is the value of a text.
func of(t *testing.T, s string) api.Value {
	t.Helper()
	v, _, err := read.Read(s)
	if err != api.OK {
		t.Fatalf("%s: %d", s, err)
	}
	return v
}

// side is one that has the value of a text; nothing of a "-".
func side(t *testing.T, s string) api.Side {
	t.Helper()
	if s == "-" {
		return api.Side{}
	}
	return api.Side{Has: true, Value: of(t, s)}
}

// con is a conflict with sides.
func con(t *testing.T, class int, base, left, right string) api.Conflict {
	t.Helper()
	return api.Conflict{Path: []string{"a"}, Class: class, Base: side(t, base), Left: side(t, left), Right: side(t, right)}
}

// told is a side as a text.
func told(s api.Side) string {
	if !s.Has && samples.Zero(s.Value) {
		return "-"
	}
	text, _ := print.Compact(s.Value)
	return text
}

// list are memos as texts.
func list(t []api.Memo) []string {
	var all []string
	for _, m := range t {
		all = append(all, m.Print+" "+told(m.Side))
	}
	return all
}

// deep is a value of a depth.
func deep(n int) api.Value {
	v := value.Num(1)
	for range n - 1 {
		v = api.Value{Kind: api.KindArray, Items: []api.Value{v}}
	}
	return v
}

func TestPrint(t *testing.T) { // P27.1, P27.6
	for _, c := range []struct {
		class             int
		base, left, right string
		want              string
	}{
		{api.ClassDrop, "1", "2", "-", "[3,[1],[],[2]]"}, {api.ClassDrop, "1", "-", "2", "[3,[1],[],[2]]"}, {api.ClassChange, "1", "3", "2", "[1,[1],[2],[3]]"}, {api.ClassAdd, "-", "1e1", "9", "[4,[],[9],[1e1]]"}, {api.ClassKind, "null", `{"b":1,"a":[]}`, `"x"`, `[2,[null],["x"],[{"a":[],"b":1}]]`}, {api.ClassInsert, "[]", "[2]", "[1,1]", "[5,[[]],[[1,1]],[[2]]]"}, {api.ClassOrder, "[]", "[1]", "[1]", "[6,[[]],[[1]],[[1]]]"}, {api.ClassInsert, "-", "-", "[]", "[5,[],[],[[]]]"},
	} {
		if s, ok := resolve.Print(con(t, c.class, c.base, c.left, c.right)); s != c.want || !ok {
			t.Errorf("%v: %s, %v", c, s, ok)
		}
	}
	wrong := wrongConflicts(t)
	for _, c := range wrong {
		if s, ok := resolve.Print(c); s != "" || ok {
			t.Errorf("%v: %s", c, s)
		}
	}
	fine := con(t, api.ClassChange, "1", "2", "3")
	fine.Left.Value = deep(api.MaxDepth - 2)
	fine.Base = api.Side{Value: api.Value{Kind: 99}}
	if s, ok := resolve.Print(fine); !ok || !strings.HasPrefix(s, "[1,[],[3],[[") {
		t.Errorf("%s, %v", s, ok)
	}
	x := samples.New(60)
	had := map[string]api.Conflict{}
	for range 2000 {
		c := api.Conflict{Class: 1 + x.Under(6), Base: random(x), Left: random(x), Right: random(x)}
		s, ok := resolve.Print(c)
		turned := c
		turned.Left, turned.Right = c.Right, c.Left
		if r, is := resolve.Print(turned); r != s || is != ok || ok == (s == "") {
			t.Errorf("%v: %s, %s", c, s, r)
		}
		if old, is := had[s]; is && ok && (old.Class != c.Class || !same(old.Base, c.Base) || !(same(old.Left, c.Left) && same(old.Right, c.Right) || same(old.Left, c.Right) && same(old.Right, c.Left))) {
			t.Errorf("%v, %v: %s", c, old, s)
		}
		had[s] = c
	}
}

// random is a side of few.
func random(x *samples.Source) api.Side {
	if x.Under(4) == 0 {
		return api.Side{}
	}
	if x.Under(2) == 0 {
		return api.Side{Has: true, Value: x.Array(2)}
	}
	return api.Side{Has: true, Value: x.Value(2)}
}

func same(a, b api.Side) bool {
	return a.Has == b.Has && (!a.Has || value.Same(a.Value, b.Value))
}

// wrongConflicts are ones that have no print.
func wrongConflicts(t *testing.T) []api.Conflict {
	var all []api.Conflict
	for _, class := range []int{0, 7, -1, api.MinInt, api.MaxInt} {
		all = append(all, con(t, class, "1", "2", "3"))
	}
	for _, v := range []api.Value{{}, {Kind: api.KindHole, Text: "0"}, value.Of("\xff"), deep(api.MaxDepth), deep(api.MaxDepth - 1)} {
		for i := range 3 {
			c := con(t, api.ClassChange, "1", "2", "3")
			*[]*api.Side{&c.Base, &c.Left, &c.Right}[i] = api.Side{Has: true, Value: v}
			all = append(all, c)
		}
	}
	many := con(t, api.ClassChange, "1", "2", "3")
	many.Left.Value = api.Value{Kind: api.KindArray, Items: slices.Repeat([]api.Value{value.Num(1)}, api.MaxNodes-1)}
	return append(all, many, con(t, api.ClassInsert, "1", "[]", "[]"), con(t, api.ClassInsert, "[]", "{}", "[]"), con(t, api.ClassInsert, "[]", "[]", `"x"`))
}

// full are as many memos as may be.
func full(t *testing.T, n int) []api.Memo {
	var all []api.Memo
	for k := range n {
		all = append(all, api.Memo{Print: "[1,[0],[" + strconv.Itoa(1000+k) + "],[5000]]", Side: side(t, "1")})
	}
	return all
}

// wrongMemos are rows that are not right.
func wrongMemos(t *testing.T) [][]api.Memo {
	return [][]api.Memo{
		{{Print: "b"}, {Print: "a"}}, {{Print: "a"}, {Print: "a"}}, {{Print: "\xff"}}, {{Side: api.Side{Has: true}}}, {{Side: api.Side{Value: value.Num(1)}}}, {{Side: api.Side{Has: true, Value: value.Of("\xc3")}}}, {{Side: api.Side{Value: api.Value{Text: "x"}}}}, full(t, api.MaxMemos+1), {{Print: "a"}, {Print: "c"}, {Print: "b"}}, {{Side: api.Side{Has: true, Value: api.Value{Kind: api.KindHole, Text: "0"}}}},
	}
}

func TestRight(t *testing.T) { // P27.1
	for _, m := range [][]api.Memo{nil, {}, {{}}, {{Print: ""}, {Print: "a", Side: side(t, "[1]")}}, {{Print: "B"}, {Print: "a"}}, full(t, api.MaxMemos)} {
		if !resolve.Right(m) {
			t.Errorf("%.100v", m)
		}
	}
	c := con(t, api.ClassChange, "1", "2", "3")
	for _, m := range wrongMemos(t) {
		a, e := resolve.Record(m, c, side(t, "1"))
		b, ok := resolve.Forget(m, c)
		s, is := resolve.Find(m, c)
		v, l, f := resolve.Settle(value.Num(1), nil, m, api.StrategyFail)
		text, g := resolve.Save(m)
		if resolve.Right(m) || a != nil || e != api.ErrArg || b != nil || ok || told(s) != "-" || is || !samples.Zero(v) || l != nil || f != api.ErrArg || text != "" || g != api.ErrArg {
			t.Errorf("%.100v", m)
		}
	}
}

func TestRecordForgetFind(t *testing.T) { // P27.2
	a, b, c := con(t, api.ClassChange, "1", "2", "3"), con(t, api.ClassAdd, "-", "1", "2"), con(t, api.ClassInsert, "[]", "[1]", "[2]")
	memos, err := resolve.Record(nil, b, side(t, "[7]"))
	if memos, err = resolve.Record(memos, a, side(t, "-")); err != api.OK {
		t.Fatal(err)
	}
	memos, err = resolve.Record(memos, c, side(t, "[1,2]"))
	want := []string{"[1,[1],[2],[3]] -", "[4,[],[1],[2]] [7]", "[5,[[]],[[1]],[[2]]] [1,2]"}
	if !slices.Equal(list(memos), want) || err != api.OK {
		t.Errorf("%q, %d", list(memos), err)
	}
	a.Left, a.Right = a.Right, a.Left
	again, err := resolve.Record(memos, a, api.Side{Has: true, Value: of(t, "9")})
	want[0] = "[1,[1],[2],[3]] 9"
	if !slices.Equal(list(again), want) || err != api.OK || list(memos)[0] != "[1,[1],[2],[3]] -" {
		t.Errorf("%q, %d", list(again), err)
	}
	dirty, err := resolve.Record(memos, a, api.Side{Value: value.Num(4)})
	if s, ok := resolve.Find(dirty, a); told(s) != "-" || !ok || err != api.OK || !resolve.Right(dirty) {
		t.Errorf("%v, %v, %d", s, ok, err)
	}
	if s, ok := resolve.Find(again, a); told(s) != "9" || !ok {
		t.Errorf("%v, %v", s, ok)
	}
	if s, ok := resolve.Find(memos, a); told(s) != "-" || !ok {
		t.Errorf("%v, %v", s, ok)
	}
	less, ok := resolve.Forget(again, b)
	if !ok || !slices.Equal(list(less), []string{want[0], want[2]}) || len(again) != 3 {
		t.Errorf("%q, %v", list(less), ok)
	}
	if l, ok := resolve.Forget(less, b); ok || !slices.Equal(list(l), list(less)) {
		t.Errorf("%q, %v", list(l), ok)
	}
	if s, ok := resolve.Find(less, b); told(s) != "-" || ok || s.Has {
		t.Errorf("%v, %v", s, ok)
	}
	text, _ := resolve.Print(a)
	twice := []api.Memo{{Print: text, Side: side(t, "1")}, {Print: text, Side: side(t, "1")}}
	if l, ok := resolve.Forget(twice, a); l != nil || ok {
		t.Errorf("%v", l)
	}
	if s, ok := resolve.Find(twice, a); told(s) != "-" || ok {
		t.Errorf("%v", s)
	}
	for _, bad := range wrongConflicts(t) {
		l, e := resolve.Record(again, bad, side(t, "[]"))
		m, ok := resolve.Forget(again, bad)
		s, is := resolve.Find(again, bad)
		if l != nil || e != api.ErrArg || ok || !slices.Equal(list(m), list(again)) || is || told(s) != "-" {
			t.Errorf("%.100v: %d, %v, %v", bad, e, ok, is)
		}
	}
	for _, s := range []api.Side{{Has: true}, {Has: true, Value: value.Of("\xff")}, {Has: true, Value: api.Value{Kind: api.KindHole, Text: "0"}}} {
		if l, err := resolve.Record(nil, a, s); l != nil || err != api.ErrArg {
			t.Errorf("%v: %v, %d", s, l, err)
		}
	}
	for _, s := range []string{"-", "1", "{}", `"x"`} {
		if l, err := resolve.Record(nil, c, side(t, s)); l != nil || err != api.ErrArg {
			t.Errorf("%s: %v, %d", s, l, err)
		}
	}
	if l, err := resolve.Record(full(t, api.MaxMemos), a, side(t, "1")); l != nil || err != api.ErrFull {
		t.Errorf("too many: %d", err)
	}
	if l, err := resolve.Record(full(t, api.MaxMemos), a, api.Side{Has: true}); l != nil || err != api.ErrArg {
		t.Errorf("too many, and wrong: %d", err)
	}
	if l, err := resolve.Record(full(t, api.MaxMemos-1), a, side(t, "1")); len(l) != api.MaxMemos || err != api.OK || !resolve.Right(l) {
		t.Errorf("the last one: %d", err)
	}
	old := con(t, api.ClassChange, "0", "5000", "1007")
	fullOnes := full(t, api.MaxMemos)
	fullOnes[7].Print, _ = resolve.Print(old)
	if slices.SortFunc(fullOnes, func(a, b api.Memo) int { return strings.Compare(a.Print, b.Print) }); !resolve.Right(fullOnes) {
		t.Fatal("memos of the test")
	}
	if l, err := resolve.Record(fullOnes, old, side(t, "3")); len(l) != api.MaxMemos || err != api.OK {
		t.Errorf("in the place of one: %d", err)
	}
}

// hole is one of a number.
func hole(n int) api.Value { return api.Value{Kind: api.KindHole, Text: value.Num(n).Text} }

func TestSettle(t *testing.T) { // P27.3
	change, drop, insert := con(t, api.ClassChange, "0", "1", "2"), con(t, api.ClassDrop, "0", "-", "2"), con(t, api.ClassInsert, "[]", "[1,2]", "[3]")
	half := con(t, api.ClassInsert, "-", "-", "[3]")
	half.Left.Value = of(t, "[8]")
	arr := func(l ...api.Value) api.Value { return api.Value{Kind: api.KindArray, Items: l} }
	record := func(t2 []api.Memo, c api.Conflict, s string) []api.Memo {
		l, err := resolve.Record(t2, c, side(t, s))
		if err != api.OK {
			t.Fatal(err)
		}
		return l
	}
	text, _ := resolve.Print(insert)
	odd := []api.Memo{{Print: text, Side: side(t, "7")}}
	none := []api.Memo{{Print: text}}
	for _, c := range []struct {
		v        api.Value
		l        []api.Conflict
		t        []api.Memo
		strategy int
		want     string
		open     []int
		err      api.Errno
	}{
		{of(t, "[1]"), nil, nil, api.StrategyFail, "[1]", nil, api.OK}, {arr(hole(0)), []api.Conflict{change}, nil, api.StrategyFail, "", []int{0}, api.ErrConflict}, {arr(hole(0)), []api.Conflict{change}, nil, api.StrategyLeft, "[1]", nil, api.OK}, {arr(hole(0)), []api.Conflict{change}, nil, api.StrategyRight, "[2]", nil, api.OK}, {arr(hole(0)), []api.Conflict{change}, nil, api.StrategyBase, "[0]", nil, api.OK}, {arr(hole(0)), []api.Conflict{change}, nil, api.StrategyUnion, "", []int{0}, api.ErrConflict},
		{arr(hole(0)), []api.Conflict{insert}, nil, api.StrategyUnion, "[1,2,3]", nil, api.OK}, {arr(hole(0)), []api.Conflict{half}, nil, api.StrategyUnion, "[8,3]", nil, api.OK}, {arr(hole(0)), []api.Conflict{half}, nil, api.StrategyLeft, "[]", nil, api.OK}, {arr(hole(2), hole(0), hole(1)), []api.Conflict{change, insert, drop}, nil, api.StrategyUnion, "", []int{0, 2}, api.ErrConflict}, {arr(hole(2), hole(0), hole(1)), []api.Conflict{change, insert, drop}, nil, api.StrategyLeft, "[1,1,2]", nil, api.OK}, {hole(0), []api.Conflict{drop}, nil, api.StrategyLeft, "", nil, api.ErrNone}, {hole(0), []api.Conflict{drop}, nil, api.StrategyRight, "2", nil, api.OK}, {hole(0), []api.Conflict{con(t, api.ClassAdd, "-", "1", "2")}, nil, api.StrategyLeft, "1", nil, api.OK}, {hole(0), []api.Conflict{con(t, api.ClassAdd, "-", "1", "2")}, nil, api.StrategyBase, "", nil, api.ErrNone},
		{arr(hole(0), hole(1)), []api.Conflict{change, drop}, record(nil, change, "9"), api.StrategyFail, "", []int{1}, api.ErrConflict}, {arr(hole(0), hole(1)), []api.Conflict{change, drop}, record(nil, change, "9"), api.StrategyRight, "[9,2]", nil, api.OK}, {arr(hole(0), hole(1)), []api.Conflict{change, drop}, record(record(nil, change, "-"), drop, `{"x":1}`), api.StrategyFail, `[{"x":1}]`, nil, api.OK}, {arr(hole(0)), []api.Conflict{insert}, record(nil, insert, "[5,6]"), api.StrategyUnion, "[5,6]", nil, api.OK}, {arr(hole(0)), []api.Conflict{insert}, odd, api.StrategyLeft, "", nil, api.ErrArg}, {arr(hole(0)), []api.Conflict{insert}, none, api.StrategyLeft, "[]", nil, api.OK}, {hole(0), []api.Conflict{change}, record(nil, change, "-"), api.StrategyLeft, "", nil, api.ErrNone},
		{arr(hole(0)), []api.Conflict{change}, nil, 0, "", nil, api.ErrArg}, {arr(hole(0)), []api.Conflict{change}, nil, 6, "", nil, api.ErrArg}, {arr(hole(1)), []api.Conflict{change}, nil, api.StrategyFail, "", nil, api.ErrArg}, {api.Value{}, nil, nil, api.StrategyFail, "", nil, api.ErrArg}, {of(t, "1"), []api.Conflict{change}, nil, api.StrategyFail, "", nil, api.ErrArg}, {arr(hole(0)), nil, nil, api.StrategyLeft, "", nil, api.ErrArg}, {arr(hole(0), hole(1)), []api.Conflict{{}, {}}, nil, api.StrategyFail, "", []int{0, 1}, api.ErrConflict},
	} {
		v, open, err := resolve.Settle(c.v, c.l, c.t, c.strategy)
		text, _ := print.Compact(v)
		if text != c.want || !slices.Equal(open, c.open) || err != c.err || err != api.OK && !samples.Zero(v) {
			t.Errorf("%v, %v, %q, %d: %s, %v, %d", c.v, c.l, list(c.t), c.strategy, text, open, err)
		}
	}
	wild := con(t, api.ClassInsert, "[]", "-", "[]")
	wild.Left.Value = arr(api.Value{Kind: 99})
	if v, open, err := resolve.Settle(arr(hole(0)), []api.Conflict{wild}, nil, api.StrategyUnion); !samples.Zero(v) || open != nil || err != api.ErrArg {
		t.Errorf("%v, %v, %d", v, open, err)
	}
	great := con(t, api.ClassInsert, "[]", "[]", "[]")
	great.Left.Value.Items = slices.Repeat([]api.Value{value.Num(1)}, 2100)
	great.Right.Value.Items = great.Left.Value.Items
	if v, open, err := resolve.Settle(arr(hole(0)), []api.Conflict{great}, nil, api.StrategyUnion); !samples.Zero(v) || open != nil || err != api.ErrArg {
		t.Errorf("%d", err)
	}
}

func TestSaveAndLoad(t *testing.T) { // P27.4, P27.8
	memos := []api.Memo{{Print: "", Side: side(t, `{"b":1,"a":[true,false,null,"x\"",-15e-1]}`)}, {Print: "a\n\""}, {Print: "é", Side: side(t, "[]")}}
	s, err := resolve.Save(memos)
	if s != `[["",[{"a":[true,false,null,"x\"",-15e-1],"b":1}]],["a\n\"",[]],["é",[[]]]]` || err != api.OK {
		t.Errorf("%s, %d", s, err)
	}
	back, ok := resolve.Load(s)
	memos[0].Side.Value = value.Sorted(memos[0].Side.Value)
	if !slices.Equal(list(back), list(memos)) || !ok || !resolve.Right(back) {
		t.Errorf("%q, %v", list(back), ok)
	}
	if s, err := resolve.Save(nil); s != "[]" || err != api.OK {
		t.Errorf("%q, %d", s, err)
	}
	if l, ok := resolve.Load("[]"); len(l) != 0 || !ok {
		t.Errorf("%v, %v", l, ok)
	}
	for _, s := range []string{
		"", " []", "[] ", "[]x", "{}", "1", "null", `""`, "[", "]", "[[]]", "[1]", `["a"]`, `[["a"]]`, `[["a",1]]`, `[["a",[],1]]`, `[["a",[1,2]]]`, `[[1,[]]]`, `[["a",{}]]`, `[["b",[]],["a",[]]]`, `[["a",[]],["a",[]]]`, `[["a",[10]]]`, `[["a",[1.0]]]`, `[["a",[01]]]`, `[["a",[{"b":1,"a":2}]]]`, `[["a",[{"a":1,"a":2}]]]`, `[["\u0061",[]]]`, `[["a", []]]`, `[["a",[]],]`, `[["a",[tru]]]`, `[["a",[]]`, `[["a",[]]]]`, `[["a",[nul]]]`, "[[\"\xff\",[]]]", `[["a",[]]` + "\n]", `[["a",[-]]]`, `[["a",[{"a"}]]]`, `[["a",[{"a":}]]]`, `[["a",[{1:1}]]]`, `[["a",[,]]]`, `[["a"[]]]`, `[["a",[[1]}]]`, `[["a",[True]]]`, strings.Repeat("[", 100000), `[["a",[` + strings.Repeat("[", 30) + strings.Repeat("]", 30) + `]]]`, "[[\"\\ud800\",[]]]", `[["a\/",[]]]`,
	} {
		if l, ok := resolve.Load(s); l != nil || ok {
			t.Errorf("%.50q: %v", s, l)
		}
	}
	if l, ok := resolve.Load(`[["a",[` + strings.Repeat("[", 29) + strings.Repeat("]", 29) + `]]]`); len(l) != 1 || !ok {
		t.Errorf("as deep as may be: %v, %v", l, ok)
	}
	if s, err := resolve.Save([]api.Memo{{Side: api.Side{Has: true, Value: deep(30)}}}); s != "" || err != api.ErrArg {
		t.Errorf("too deep: %d", err)
	}
	if s, err := resolve.Save([]api.Memo{{Side: api.Side{Has: true, Value: deep(29)}}}); s == "" || err != api.OK {
		t.Errorf("as deep as may be: %d", err)
	}
	wide := api.Side{Has: true, Value: api.Value{Kind: api.KindArray, Items: slices.Repeat([]api.Value{value.Num(1)}, 4000)}}
	if s, err := resolve.Save([]api.Memo{{Side: wide}, {Print: "a", Side: wide}}); s != "" || err != api.ErrArg {
		t.Errorf("too many: %d", err)
	}
	long := []api.Memo{{Print: strings.Repeat("é\n", api.MaxText), Side: api.Side{Has: true, Value: value.Of(strings.Repeat("x", api.MaxText))}}}
	s, err = resolve.Save(long)
	if l, ok := resolve.Load(s); err != api.OK || !ok || len(l) != 1 || l[0].Print != long[0].Print || l[0].Side.Value.Text != long[0].Side.Value.Text {
		t.Errorf("a long text: %d, %v", err, ok)
	}
}

func TestLaws(t *testing.T) { // P27.5, P27.7, P27.8, P27.9
	x := samples.New(61)
	var memos []api.Memo
	known := map[string]api.Side{}
	var all []api.Conflict
	for range 220 {
		c := api.Conflict{Class: 1 + x.Under(6), Base: random(x), Left: random(x), Right: random(x)}
		if x.Under(3) == 0 && len(all) > 0 {
			c = all[x.Under(len(all))]
		}
		text, ok := resolve.Print(c)
		if !ok {
			continue
		}
		all = append(all, c)
		s := random(x)
		if c.Class == api.ClassInsert {
			s = api.Side{Has: true, Value: x.Array(2)}
		}
		in := api.Side{Has: s.Has, Value: samples.Roomy(s.Value)}
		old, before := memos, list(memos)
		if x.Under(4) == 0 {
			var is bool
			memos, is = resolve.Forget(memos, c)
			_, was := known[text]
			delete(known, text)
			if is != was {
				t.Errorf("%s: %v, %v", text, is, was)
			}
		} else {
			l, err := resolve.Record(memos, c, in)
			if err != api.OK {
				t.Fatalf("%s: %d", text, err)
			}
			memos, known[text] = l, s
		}
		if !slices.Equal(list(old), before) || !samples.Untouched(in.Value, s.Value) {
			t.Error("what was handed in was turned")
		}
		for _, m := range old {
			samples.Spoil(m.Side.Value)
		}
		if len(memos) != len(known) || !resolve.Right(memos) {
			t.Fatalf("%d memos, not %d", len(memos), len(known))
		}
		for _, c := range all {
			text, _ := resolve.Print(c)
			want, was := known[text]
			got, ok := resolve.Find(memos, c)
			if ok != was || told(got) != told(want) {
				t.Errorf("%s: %s, %v, not %s", text, told(got), ok, told(want))
			}
			samples.Spoil(got.Value)
		}
		saved, err := resolve.Save(memos)
		if err != api.OK {
			continue
		}
		loaded, ok := resolve.Load(saved)
		again, _ := resolve.Save(loaded)
		if !ok || again != saved || len(loaded) != len(memos) {
			t.Errorf("%s: %v", saved, ok)
		}
	}
	for _, b := range samples.Values(62, 200) {
		v, l, _ := merge.Merge(b, x.Turned(x.Turned(b)), x.Turned(x.Turned(b)), nil)
		memos = nil
		for _, c := range l {
			s, _ := merge.Side(c, 1+x.Under(2))
			memos, _ = resolve.Record(memos, c, s)
		}
		first, _, e := resolve.Settle(v, l, memos, api.StrategyFail)
		for strategy := api.StrategyLeft; strategy <= api.StrategyUnion; strategy++ {
			in := samples.Roomy(v)
			w, open, err := resolve.Settle(in, l, memos, strategy)
			if !samples.Same(w, first) || open != nil || err != e || err != api.OK && err != api.ErrNone {
				t.Errorf("%v: %v, %d, not %v, %d", v, w, err, first, e)
			}
			samples.Spoil(w)
			if !samples.Untouched(in, v) {
				t.Errorf("%v was turned", v)
			}
		}
	}
}
