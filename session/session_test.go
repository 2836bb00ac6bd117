package session_test

import (
	"slices"
	"strconv"
	"strings"
	"testing"

	"scarf/api"
	"scarf/diff"
	"scarf/mark"
	"scarf/merge"
	"scarf/patch"
	"scarf/pointer"
	"scarf/print"
	"scarf/read"
	"scarf/resolve"
	"scarf/rules"
	"scarf/samples"
	"scarf/session"
	"scarf/splice"
	"scarf/value"
	"scarf/yprint"
	"scarf/yread"
)

// side is one as a text; nothing of one that has nothing.
func side(s api.Side) string {
	if !s.Has && samples.Zero(s.Value) {
		return "-"
	}
	text, _ := print.Compact(s.Value)
	return text
}

// list are conflicts as texts.
func list(l []api.Conflict) string {
	var all []string
	for _, c := range l {
		p, _ := pointer.Text(c.Path)
		all = append(all, p+" "+strconv.Itoa(c.Class)+" "+side(c.Base)+" "+side(c.Left)+" "+side(c.Right))
	}
	return strings.Join(all, "; ")
}

// held is what a session holds as a text.
func held(x *session.Session) string {
	h := x.Held()
	text, _ := rules.Print(h.Rules)
	for _, m := range h.Memos {
		text += m.Print + side(m.Side) + "\n"
	}
	return text + strconv.Itoa(h.Strategy) + "\n" + list(h.Conflicts)
}

// do does a command that must be done.
func do(t *testing.T, x *session.Session, c api.Command) api.Answer {
	t.Helper()
	a, err := x.Do(c)
	if err != api.OK {
		t.Fatalf("%.80v: %.80v, %d", c, a, err)
	}
	return a
}

// refused does a command that must tell an error, and N, and turn nothing.
func refused(t *testing.T, x *session.Session, c api.Command, n int, want api.Errno) {
	t.Helper()
	old := held(x)
	a, err := x.Do(c)
	if err != want || a.N != n || a.Text != "" || len(a.Conflicts) != 0 {
		t.Errorf("%.80v: %.80v, %d, not %d, %d", c, a, err, n, want)
	}
	if held(x) != old {
		t.Errorf("%.80v: holds %.500s, not %.500s", c, held(x), old)
	}
}

// join merges texts of JSON.
func join(b, l, r string) api.Command {
	return api.Command{Do: api.CmdMerge, Format: api.FormatJson, A: b, B: l, C: r}
}

func TestHeld(t *testing.T) { // P28.1
	x := session.New()
	if h := x.Held(); len(h.Rules)+len(h.Memos)+len(h.Conflicts) != 0 || h.Strategy != api.StrategyFail {
		t.Errorf("%v", h)
	}
}

func TestRules(t *testing.T) { // P28.2
	x := session.New()
	good := "\"/k\" \"id\"\n\"/**\" \"name\"\n"
	if a := do(t, x, api.Command{Do: api.CmdRules, A: good}); a.N != 2 || a.Text != "" {
		t.Errorf("%v", a)
	}
	if s, _ := rules.Print(x.Held().Rules); s != good {
		t.Errorf("%q", s)
	}
	refused(t, x, api.Command{Do: api.CmdRules, A: good + "x"}, 2, api.ErrForm)
	refused(t, x, api.Command{Do: api.CmdRules, A: strings.Repeat(good, 17)}, 32, api.ErrLong)
	a := do(t, x, join(`{"k":[{"id":1,"v":0},{"id":2}]}`, `{"k":[{"id":2},{"id":1,"v":1}]}`, `{"k":[{"id":1,"v":0},{"id":2},{"id":3}]}`))
	if a.Text != `{"k":[{"id":2},{"id":1,"v":1},{"id":3}]}` || a.N != 0 {
		t.Errorf("%v", a)
	}
	if a := do(t, x, api.Command{Do: api.CmdRules}); a.N != 0 || len(x.Held().Rules) != 0 {
		t.Errorf("%v", a)
	}
}

func TestStrategy(t *testing.T) { // P28.2
	x := session.New()
	for n, want := range map[int]string{api.StrategyLeft: "[1,1]", api.StrategyRight: "[1,2]", api.StrategyBase: "[1]", api.StrategyUnion: "[1,1,2]"} {
		do(t, x, api.Command{Do: api.CmdStrategy, N: n})
		if a := do(t, x, join("[1]", "[1,1]", "[1,2]")); a.Text != want || a.N != 0 || list(a.Conflicts) != "/+1 5 [] [1] [2]" || x.Held().Strategy != n {
			t.Errorf("%d: %v", n, a)
		}
	}
	for _, n := range []int{0, 6, -1, api.MaxInt, api.MinInt} {
		refused(t, x, api.Command{Do: api.CmdStrategy, N: n}, 0, api.ErrArg)
	}
	do(t, x, api.Command{Do: api.CmdStrategy, N: api.StrategyFail})
}

func TestMerge(t *testing.T) { // P28.2
	x := session.New()
	if a := do(t, x, join(`{"a":1,"b":[1,2]}`, `{ "a": 1, "b": [1, 9, 2] }`, `{"a":5,"b":[1,2]}`)); a.Text != `{ "a": 5, "b": [1, 9, 2] }` || a.N != 0 || len(a.Conflicts) != 0 {
		t.Errorf("%v", a)
	}
	a := do(t, x, join(`{"a":1}`, `{"a":2}`, `{"a":3}`))
	want := "#marks 7\n\n<<<<<<<\n{\"a\":2}\n|||||||\n{\"a\":1}\n=======\n{\"a\":3}\n>>>>>>>\n"
	if a.Text != want || a.N != 1 || list(a.Conflicts) != "/a 1 1 2 3" || list(x.Held().Conflicts) != "/a 1 1 2 3" {
		t.Errorf("%q, %d, %s", a.Text, a.N, list(a.Conflicts))
	}
	a = do(t, x, api.Command{Do: api.CmdMerge, Format: api.FormatYaml, A: "a: 1\nb: 2\n", B: "a: 5 # l\nb: 3\n", C: "a: 1\nb: 4\nc: 0"})
	if want := "#marks 7\n\n<<<<<<<\nb: 3\n\n|||||||\nb: 2\n\n=======\nb: 4\n\n>>>>>>>\na: 5 # l\nc: 0\n"; a.Text != want || a.N != 1 {
		t.Errorf("%q", a.Text)
	}
	refused(t, x, join("[", "[", "["), 0, api.ErrForm)
	refused(t, x, join("1", `{"a":1,"a":1}`, "["), 1, api.ErrDouble)
	refused(t, x, join("1", "1", "1e1000001"), 2, api.ErrNum)
	refused(t, x, api.Command{Do: api.CmdMerge, Format: 3, A: "1", B: "1", C: "1"}, 0, api.ErrArg)
	refused(t, x, api.Command{Do: api.CmdMerge, A: "1", B: "1", C: "1"}, 0, api.ErrArg)
	refused(t, x, api.Command{Do: api.CmdMerge, Format: api.FormatYaml, A: "a: b: c", B: "x", C: "y"}, 0, api.ErrForm)
	wide := func(key string) string { return `{"` + key + `":[0` + strings.Repeat(",0", 2500) + "]}" }
	refused(t, x, join("{}", wide("a"), wide("b")), 0, api.ErrMany)
	long := func(c string) string { return `"` + strings.Repeat(c, 40000) + `"` }
	refused(t, x, join("{}", `{"a":`+long("x")+"}", `{"b":`+long("y")+"}"), 0, api.ErrLong)
	refused(t, x, join(`{"a":0}`, `{"a":2,"b":`+long("x")+"}", `{"c":`+long("y")+`,"a":1}`), 0, api.ErrLong)
	do(t, x, api.Command{Do: api.CmdStrategy, N: api.StrategyUnion})
	old := list(x.Held().Conflicts)
	refused(t, x, join("[", "1", "1"), 0, api.ErrForm)
	if list(x.Held().Conflicts) != old {
		t.Error("the last conflicts")
	}
	many := func(c string) string { return "[" + strings.Repeat("["+c+"],", 63) + "[" + c + "]]" }
	if a := do(t, x, join("[]", many("1"), many("2"))); a.N != 0 || len(a.Conflicts) != 1 {
		t.Errorf("%v", a)
	}
}

func TestDiff(t *testing.T) { // P28.2
	x := session.New()
	if a := do(t, x, api.Command{Do: api.CmdDiff, Format: api.FormatJson, A: `{"a":1}`, B: `{"b":1}`}); a.Text != "remove \"/a\"\nadd \"/b\" 1\n" || a.N != 2 || len(a.Conflicts) != 0 {
		t.Errorf("%v", a)
	}
	if a := do(t, x, api.Command{Do: api.CmdDiff, Format: api.FormatYaml, A: "a: 1", B: "'a': 1.0 # x"}); a.Text != "" || a.N != 0 {
		t.Errorf("%v", a)
	}
	refused(t, x, api.Command{Do: api.CmdDiff, Format: api.FormatJson, A: "[", B: "["}, 0, api.ErrForm)
	refused(t, x, api.Command{Do: api.CmdDiff, Format: api.FormatJson, A: "1", B: `{"a":1,"a":2}`}, 1, api.ErrDouble)
	refused(t, x, api.Command{Do: api.CmdDiff, Format: 7, A: "1", B: "1"}, 0, api.ErrArg)
}

func TestApply(t *testing.T) { // P28.2
	x := session.New()
	apply := func(format int, s, steps string) api.Command {
		return api.Command{Do: api.CmdApply, Format: format, A: s, B: steps}
	}
	if a := do(t, x, apply(api.FormatJson, ` { "a" : [1,  2] }`, `[{"op":"add","path":"/b","value":3},{"op":"remove","path":"/a/0"}]`)); a.Text != ` { "a" : [  2], "b" : 3 }` || a.N != 0 {
		t.Errorf("%q", a.Text)
	}
	if a := do(t, x, apply(api.FormatYaml, "# c\na: 1 # d\n", `[{"op":"add","path":"/b","value":[3]}]`)); a.Text != "# c\na: 1 # d\nb:\n  - 3\n" {
		t.Errorf("%q", a.Text)
	}
	refused(t, x, apply(api.FormatJson, "[", "["), 0, api.ErrForm)
	refused(t, x, apply(9, "1", "[]"), 0, api.ErrArg)
	refused(t, x, apply(api.FormatJson, "1", "[1e9999999999]"), 1, api.ErrNum)
	refused(t, x, apply(api.FormatYaml, "1", "- a"), 1, api.ErrForm)
	refused(t, x, apply(api.FormatJson, "1", "[{}]"), 1, api.ErrForm)
	refused(t, x, apply(api.FormatJson, "1", "1"), 1, api.ErrForm)
	refused(t, x, apply(api.FormatJson, "[1]", `[{"op":"remove","path":"/0"},{"op":"remove","path":"/0"}]`), 1, api.ErrNone)
	refused(t, x, apply(api.FormatJson, "[1]", `[{"op":"test","path":"/0","value":1},{"op":"test","path":"","value":[1]},{"op":"test","path":"/0","value":2}]`), 2, api.ErrTest)
	refused(t, x, apply(api.FormatJson, strings.Repeat(" ", 40000)+"[1]", `[{"op":"add","path":"/0","value":"`+strings.Repeat("y", 40000)+`"}]`), 0, api.ErrLong)
}

func TestConvert(t *testing.T) { // P28.2
	x := session.New()
	convert := func(from, to int, s string) api.Command {
		return api.Command{Do: api.CmdConvert, Format: from, To: to, A: s}
	}
	for _, c := range []struct {
		from, to int
		s, want  string
	}{
		{api.FormatJson, api.FormatYaml, `{"a":[1,"1"]}`, "a:\n  - 1\n  - '1'\n"}, {api.FormatYaml, api.FormatJson, "a:\n  - 1\n", "{\n  \"a\": [\n    1\n  ]\n}\n"}, {api.FormatJson, api.FormatJson, " 1.0", "1\n"}, {api.FormatYaml, api.FormatYaml, "# c\na: 1 # d", "a: 1\n"}, {api.FormatYaml, api.FormatJson, "", "null\n"},
	} {
		if a := do(t, x, convert(c.from, c.to, c.s)); a.Text != c.want || a.N != 0 {
			t.Errorf("%q: %q", c.s, a.Text)
		}
	}
	refused(t, x, convert(api.FormatJson, 0, "["), 0, api.ErrForm)
	refused(t, x, convert(api.FormatJson, 3, "1"), 0, api.ErrArg)
	refused(t, x, convert(api.FormatJson, 0, "1"), 0, api.ErrArg)
	refused(t, x, convert(0, api.FormatJson, "1"), 0, api.ErrArg)
	refused(t, x, convert(api.FormatYaml, api.FormatJson, "a: 1\na: 2"), 0, api.ErrDouble)
}

func TestRecordAndForget(t *testing.T) { // P28.2, P28.5
	x := session.New()
	refused(t, x, api.Command{Do: api.CmdRecord, N: 0, Pick: 9}, 0, api.ErrNone)
	refused(t, x, api.Command{Do: api.CmdValue, N: 0, A: "["}, 0, api.ErrNone)
	refused(t, x, api.Command{Do: api.CmdForget}, 0, api.ErrNone)
	three := join(`{"a":1}`, `{"a":2}`, `{"a":3}`)
	do(t, x, three)
	for _, n := range []int{-1, 1, api.MinInt, api.MaxInt} {
		refused(t, x, api.Command{Do: api.CmdRecord, N: n}, 0, api.ErrNone)
		refused(t, x, api.Command{Do: api.CmdValue, N: n, A: "1"}, 0, api.ErrNone)
		refused(t, x, api.Command{Do: api.CmdForget, N: n}, 0, api.ErrNone)
	}
	refused(t, x, api.Command{Do: api.CmdForget}, 0, api.ErrNone)
	refused(t, x, api.Command{Do: api.CmdRecord, Pick: 3}, 0, api.ErrArg)
	refused(t, x, api.Command{Do: api.CmdRecord, Pick: -1}, 0, api.ErrArg)
	refused(t, x, api.Command{Do: api.CmdValue, A: "[1,]"}, 0, api.ErrForm)
	for pick, want := range map[int]string{api.PickBase: `{"a":1}`, api.PickLeft: `{"a":2}`, api.PickRight: `{"a":3}`} {
		if a := do(t, x, api.Command{Do: api.CmdRecord, Pick: pick}); a.Text != "" || a.N != 0 || len(a.Conflicts) != 0 {
			t.Errorf("%v", a)
		}
		if a := do(t, x, three); a.Text != want || a.N != 0 || list(a.Conflicts) != "/a 1 1 2 3" || len(x.Held().Memos) != 1 {
			t.Errorf("%d: %v", pick, a)
		}
	}
	do(t, x, api.Command{Do: api.CmdValue, A: ` {"x": [1]}`})
	if a := do(t, x, three); a.Text != `{"a":{"x":[1]}}` {
		t.Errorf("%v", a)
	}
	do(t, x, api.Command{Do: api.CmdForget})
	if a := do(t, x, three); a.N != 1 || len(x.Held().Memos) != 0 {
		t.Errorf("%v", a)
	}
	do(t, x, join("[1]", "[1,1]", "[1,2]"))
	refused(t, x, api.Command{Do: api.CmdValue, A: "1"}, 0, api.ErrArg)
	do(t, x, api.Command{Do: api.CmdValue, A: "[7,8]"})
	if a := do(t, x, join("[1]", "[1,1]", "[1,2]")); a.Text != "[1,7,8]" {
		t.Errorf("%v", a)
	}
	x = session.New()
	for k := range api.MaxMemos {
		do(t, x, join("0", strconv.Itoa(1000+k), "1"))
		do(t, x, api.Command{Do: api.CmdRecord, Pick: api.PickLeft})
	}
	do(t, x, join("0", "2000", "1"))
	refused(t, x, api.Command{Do: api.CmdRecord, Pick: api.PickLeft}, 0, api.ErrFull)
	refused(t, x, api.Command{Do: api.CmdValue, A: "1"}, 0, api.ErrFull)
	a := do(t, x, join(`{"a":0,"b":0}`, `{"a":1000,"b":1}`, `{"a":1,"b":2}`))
	if a.N != 1 || len(a.Conflicts) != 2 {
		t.Errorf("one of two conflicts is recorded: %v", a)
	}
}

func TestSaveLoadPick(t *testing.T) { // P28.2, P28.6
	x := session.New()
	if a := do(t, x, api.Command{Do: api.CmdSave}); a.Text != "[]" || a.N != 0 {
		t.Errorf("%v", a)
	}
	three := join(`{"a":1,"b":0}`, `{"a":2,"b":0}`, `{"a":3,"b":0}`)
	marked := do(t, x, three).Text
	do(t, x, api.Command{Do: api.CmdRecord, Pick: api.PickRight})
	saved := do(t, x, api.Command{Do: api.CmdSave})
	if want := `[["[1,[1],[2],[3]]",[3]]]`; saved.Text != want || saved.N != 1 {
		t.Errorf("%v", saved)
	}
	y := session.New()
	if a := do(t, y, api.Command{Do: api.CmdLoad, A: saved.Text}); a.N != 1 || a.Text != "" {
		t.Errorf("%v", a)
	}
	if a, b := do(t, x, three), do(t, y, three); a.Text != `{"a":3,"b":0}` || b.Text != a.Text || held(x) != held(y) {
		t.Errorf("%v, %v", a, b)
	}
	for _, s := range []string{"", "[1]", saved.Text + " ", `[["b",[]],["a",[]]]`} {
		refused(t, y, api.Command{Do: api.CmdLoad, A: s}, 0, api.ErrForm)
	}
	if a := do(t, y, api.Command{Do: api.CmdLoad, A: "[]"}); a.N != 0 || len(y.Held().Memos) != 0 {
		t.Errorf("%v", a)
	}
	for pick, want := range []string{`{"a":1,"b":0}`, `{"a":2,"b":0}`, `{"a":3,"b":0}`} {
		a := do(t, y, api.Command{Do: api.CmdPick, A: marked, Picks: []int{pick}})
		v, _, err := read.Read(a.Text)
		w, _, _ := read.Read(want)
		if !value.Same(v, w) || err != api.OK || a.N != 0 {
			t.Errorf("%d: %v", pick, a)
		}
	}
	refused(t, y, api.Command{Do: api.CmdPick, A: "x"}, 0, api.ErrForm)
	refused(t, y, api.Command{Do: api.CmdPick, A: marked}, 0, api.ErrArg)
	refused(t, y, api.Command{Do: api.CmdPick, A: marked, Picks: []int{3}}, 0, api.ErrArg)
	wide := "[" + strings.TrimSuffix(strings.Repeat("0,", 3000), ",") + "]"
	for k := range 2 {
		do(t, y, join("0", "1", strconv.Itoa(2+k)))
		do(t, y, api.Command{Do: api.CmdValue, A: wide})
	}
	refused(t, y, api.Command{Do: api.CmdSave}, 0, api.ErrArg)
	for _, n := range []int{0, 13, -1, api.MaxInt, api.MinInt} {
		refused(t, y, api.Command{Do: n, A: "[]", Format: api.FormatJson, To: api.FormatJson}, 0, api.ErrArg)
	}
}

// write is a value as a text of a format.
func write(format int, v api.Value) string {
	if format == api.FormatYaml {
		s, _ := yprint.Print(v)
		return "# head\n" + s
	}
	s, _ := print.Pretty(v, 1, 0)
	return s + "\n"
}

func TestLaws(t *testing.T) { // P28.3, P28.4, P28.5, P28.7
	s := samples.New(63)
	x, y := session.New(), session.New()
	both := func(c api.Command) (api.Answer, api.Errno) {
		keep := slices.Clone(c.Picks)
		a, e := x.Do(c)
		b, f := y.Do(c)
		if a.Text != b.Text || a.N != b.N || list(a.Conflicts) != list(b.Conflicts) || e != f || !slices.Equal(c.Picks, keep) {
			t.Errorf("%v: %v, %d; %v, %d", c, a, e, b, f)
		}
		return a, e
	}
	settled := 0
	for _, b := range samples.Values(63, 400) {
		l, r := s.Turned(s.Turned(b)), s.Turned(s.Turned(b))
		format := 1 + s.Under(2)
		c := api.Command{Do: api.CmdMerge, Format: format, A: write(format, b), B: write(format, l), C: write(format, r)}
		a, err := both(c)
		v, conflicts, _ := merge.Merge(b, l, r, nil)
		if err != api.OK || list(a.Conflicts) != list(conflicts) {
			if err != api.ErrNone || v.Kind != api.KindHole {
				t.Errorf("%v: %v, %d", c, a, err)
			}
			continue
		}
		picks := make([]int, len(conflicts))
		parts, groups, _ := splice.Parts(format, c.B, v, conflicts)
		if text, _ := mark.Encode(parts); a.N > 0 && a.Text != text {
			t.Errorf("%q is not %q", a.Text, text)
		} else if a.N > 0 {
			chosen := slices.Repeat([]int{api.PickLeft}, len(groups))
			p, err := both(api.Command{Do: api.CmdPick, A: a.Text, Picks: chosen})
			got, _, e := yread.Any(format, p.Text)
			want, _ := merge.Choose(v, conflicts, slices.Repeat([]int{api.PickLeft}, len(conflicts)))
			if !value.Same(got, want) || err != api.OK || e != api.OK {
				t.Errorf("%q: %q, %d, %d", a.Text, p.Text, err, e)
			}
		}
		both(api.Command{Do: api.CmdLoad, A: "[]"})
		for k := range conflicts {
			picks[k] = 1 + s.Under(2)
			if conflicts[k].Class == api.ClassInsert && s.Under(3) == 0 {
				picks[k] = api.PickBase
			}
			both(api.Command{Do: api.CmdRecord, N: k, Pick: picks[k]})
		}
		a, err = both(c)
		// Conflicts of one print are settled alike, as the last one of them was.
		for k := range conflicts {
			one, _ := resolve.Print(conflicts[k])
			for j := range conflicts {
				if other, _ := resolve.Print(conflicts[j]); one == other && j > k {
					picks[k] = -1
				}
			}
		}
		if slices.Contains(picks, -1) {
			continue
		}
		want, e := merge.Choose(v, conflicts, picks)
		if e != err || a.N != 0 {
			t.Errorf("%v: %v, %d, not %d", c, a, err, e)
			continue
		}
		got, _, f := yread.Any(format, a.Text)
		if err == api.OK && (!value.Same(got, want) || f != api.OK) {
			t.Errorf("%v: %q, %d", c, a.Text, f)
		}
		settled++
		for _, k := range a.Conflicts {
			samples.Spoil(k.Base.Value)
			samples.Spoil(k.Left.Value)
			samples.Spoil(k.Right.Value)
			for i := range k.Path {
				k.Path[i] = "spoilt"
			}
		}
		h := x.Held()
		for _, m := range h.Memos {
			samples.Spoil(m.Side.Value)
		}
		for _, k := range h.Conflicts {
			samples.Spoil(k.Left.Value)
			_ = append(k.Path[:0], "spoilt")
		}
		h = x.Held()
		if !rules.Right(h.Rules) || !resolve.Right(h.Memos) || held(x) != held(y) {
			t.Errorf("%v: holds %s, not %s", c, held(x), held(y))
		}
	}
	if settled < 100 {
		t.Errorf("only %d merges settled", settled)
	}
	do(t, x, api.Command{Do: api.CmdRules, A: "\"/a/b\" \"id\"\n"})
	h := x.Held()
	h.Rules[0].Pattern[0] = "spoilt"
	if x.Held().Rules[0].Pattern[0] != "a" {
		t.Error("an answer is no new memory")
	}
}

func TestWhole(t *testing.T) { // T1, T2, T3
	s := samples.New(64)
	x := session.New()
	for _, v := range samples.Values(64, 200) {
		j, y := write(api.FormatJson, v), write(api.FormatYaml, v)
		a := do(t, x, api.Command{Do: api.CmdConvert, Format: api.FormatJson, To: api.FormatYaml, A: j})
		b := do(t, x, api.Command{Do: api.CmdConvert, Format: api.FormatYaml, To: api.FormatJson, A: a.Text})
		if w, _, err := read.Read(b.Text); !samples.Same(w, v) || err != api.OK {
			t.Errorf("%q: %q, %q", j, a.Text, b.Text)
		}
		l, r := s.Turned(v), s.Turned(v)
		one, e := x.Do(join(j, write(api.FormatJson, l), write(api.FormatJson, r)))
		other, f := x.Do(api.Command{Do: api.CmdMerge, Format: api.FormatYaml, A: y, B: write(api.FormatYaml, l), C: write(api.FormatYaml, r)})
		if e != f || one.N != other.N || list(one.Conflicts) != list(other.Conflicts) {
			t.Errorf("%q: %v, %d; %v, %d", j, one, e, other, f)
		}
		if p, _, _ := read.Read(one.Text); e == api.OK && one.N == 0 {
			if q, _, _ := yread.Read(other.Text); !value.Same(p, q) {
				t.Errorf("%q; %q", one.Text, other.Text)
			}
		}
		steps, _ := diff.Diff(v, l)
		w, _, _ := patch.Apply(v, steps)
		m := do(t, x, join(j, write(api.FormatJson, l), j))
		if got, _, _ := read.Read(m.Text); !value.Same(got, w) || m.Text != write(api.FormatJson, l) {
			t.Errorf("%q, %q: %q", j, write(api.FormatJson, l), m.Text)
		}
	}
}
