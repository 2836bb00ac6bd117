package splice_test

import (
	"slices"
	"strings"
	"testing"

	"scarf/api"
	"scarf/json"
	"scarf/mark"
	"scarf/merge"
	"scarf/print"
	"scarf/read"
	"scarf/samples"
	"scarf/splice"
	"scarf/value"
	"scarf/yaml"
	"scarf/yprint"
	"scarf/yread"
)

// of is the value of a text.
func of(t *testing.T, s string) api.Value {
	t.Helper()
	v, _, err := read.Read(s)
	if err != api.OK {
		t.Fatalf("%s: %d", s, err)
	}
	return v
}

// lines are texts in lines, each with a line feed.
func lines(l ...string) string { return strings.Join(l, "\n") + "\n" }

func TestJson(t *testing.T) { // P26.1, P26.7
	for _, c := range []struct{ s, v, want string }{
		{`{ "a" : 1 , "b":2 }`, `{"a":1,"c":3}`, `{ "a" : 1 , "c" : 3 }`}, {" [1, 2]\n", "[1,2]", " [1, 2]\n"}, {" [1, 2]\n", "[1,9,2]", " [1,9, 2]\n"}, {" [1, 2]\n", "3", " 3\n"}, {"\t1.50 ", "1.5", "\t1.50 "}, {"\t1.50 ", `"x"`, "\t\"x\" "},
		{`{"b":2.0,"a":1}`, `{"a":1,"b":2}`, `{"b":2.0,"a":1}`}, {`{ "b" : 2.0, "a" : 1 }`, `{"a":1,"b":3}`, `{ "b" : 3, "a" : 1 }`}, {`{"a":1 , "b":2 , "c":3 }`, `{"a":1,"b":2}`, `{"a":1 , "b":2  }`}, {`{"a":1 , "b":2 , "c":3 }`, `{"c":3}`, `{ "c":3 }`}, {`{"a":1 , "b":2 , "c":3 }`, `{"b":7}`, `{ "b":7  }`}, {`{"a":1 , "b":2 }`, `{"z":0,"y":1}`, `{"z":0,"y":1 }`}, {"{\n \"a\": 1,\n \"b\": 2\n}", `{"c":3,"a":1,"b":2}`, "{\n \"a\": 1,\n \"b\": 2,\n \"c\": 3\n}"},
		{`{ }`, `{"a":1,"b":[]}`, `{"a":1,"b":[]}`}, {"[ ]", "[1,2]", "[1,2]"}, {`{ "a" : 1 }`, `{}`, `{}`}, {`[ 1 ]`, "[]", "[]"}, {`[ 1 ]`, "{}", "{}"}, {`{"a":1}`, `[1]`, `[1]`}, {"[ ]", "[]", "[ ]"},
		{"[ 1 , 2 , 3 ]", "[1,3]", "[ 1 , 3 ]"}, {"[ 1 , 2 , 3 ]", "[2,3]", "[ 2 , 3 ]"}, {"[ 1 , 2 , 3 ]", "[1,2]", "[ 1 , 2  ]"}, {"[ 1 , 2 , 3 ]", "[1,2,3,4]", "[ 1 , 2 , 3, 4 ]"}, {"[ 1 , 2 , 3 ]", "[0,1,2,3]", "[ 0, 1 , 2 , 3 ]"}, {"[ 1 , 2 , 3 ]", "[1,9,3]", "[ 1 , 9 , 3 ]"}, {"[ 1 , 2 , 3 ]", "[7,8,9,10]", "[ 7 , 8 , 9, 1e1 ]"}, {"[1,  1,   1]", "[1,1]", "[1,  1]"}, {"[1,  2,   3]", "[3]", "[   3]"}, {"[1,  2,   3]", "[4]", "[4]"},
		{`{"x": [ {"a" : 1, "b" : [ 1 ]} , 5]}`, `{"x":[{"a":2,"b":[1]},5]}`, `{"x": [ {"a" : 2, "b" : [ 1 ]} , 5]}`}, {`{"x": [ {"a" : 1, "b" : [ 1 ]} , 5]}`, `{"x":[{"a":1,"b":[1,2]},5]}`, `{"x": [ {"a" : 1, "b" : [ 1, 2 ]} , 5]}`}, {`{"\u0061" : 1.0}`, `{"a":1,"\"":2}`, `{"\u0061" : 1.0,"\"" : 2}`}, {`{"a":{ "b" : 1 }}`, `{"a":{"c":2,"b":1}}`, `{"a":{ "b" : 1, "c" : 2 }}`},
		{"[[ 1 ],  [ 2 ]]", "[[1,3],[2]]", "[[ 1, 3 ],  [ 2 ]]"}, {"[[ 1 ],  [ 2 ]]", "[[2]]", "[  [ 2 ]]"}, {"[[ 1 ],  [ 2 ]]", "[[7]]", "[[ 7 ]]"},
	} {
		v := of(t, c.v)
		s, err := splice.Json(c.s, v)
		a, e := splice.Any(api.FormatJson, c.s, v)
		if s != c.want || err != api.OK || a != s || e != err {
			t.Errorf("%q, %s: %q, %d, not %q", c.s, c.v, s, err, c.want)
		}
	}
}

func TestYaml(t *testing.T) { // P26.2, P26.7
	for _, c := range []struct{ s, v, want string }{
		{lines("a: 1 # x", "b: 2"), `{"a":1,"b":3}`, lines("a: 1 # x", "b: 3")}, {"a: 1 # x", `{"a":1.0}`, "a: 1 # x"}, {"a: 1", `{"a":2}`, lines("a: 2")}, {lines("- 1"), `{"a":1}`, lines("a: 1")}, {lines("a: 1"), "[]", lines("[]")}, {lines("# c", "x # d"), `"y"`, lines("y")}, {lines("# c", "x # d"), `"x"`, lines("# c", "x # d")}, {"", `{"a":1}`, lines("a: 1")}, {"[1,  2]", "[1,3]", lines("- 1", "- 3")},
		{lines("# head", "", "a: 1 # one", "# two", "b:", "  # in", "  - x  # y", "", "  - z", "# tail", ""), `{"a":1,"b":["x","w"],"c":{"d":[1]}}`, lines("# head", "", "a: 1 # one", "# two", "b:", "  # in", "  - x  # y", "", "  - w", "c:", "  d:", "    - 1", "# tail", "")},
		{lines("a: 1", "# of b", "b: 2", "# of c", "c: 3"), `{"c":3,"a":1}`, lines("a: 1", "# of c", "c: 3")}, {lines("a: 1", "# of b", "b: 2"), `{"b":{"x":1}}`, lines("# of b", "b:", "  x: 1")}, {lines("a: 1", "b: # c", "  x: 1 # d"), `{"a":1,"b":{"x":1,"y":2}}`, lines("a: 1", "b: # c", "  x: 1 # d", "  y: 2")}, {lines("a: 1", "b: # c", "  x: 1 # d"), `{"a":1,"b":[1]}`, lines("a: 1", "b:", "  - 1")}, {lines("a: 1", "b: # c", "  x: 1 # d"), `{"a":1,"b":{}}`, lines("a: 1", "b: {}")},
		{lines("- 1 # one", "# two", "- 2", "- 3 # three"), "[1,3]", lines("- 1 # one", "- 3 # three")}, {lines("- 1 # one", "# two", "- 2", "- 3 # three"), "[1,2,9,3]", lines("- 1 # one", "# two", "- 2", "- 9", "- 3 # three")}, {lines("- 1 # one", "# two", "- 2", "- 3 # three"), "[7,8]", lines("- 7", "# two", "- 8")}, {lines("  - 1", "  -", "    - 2 # two"), "[1,[2,3],[]]", lines("  - 1", "  -", "    - 2 # two", "    - 3", "  - []")}, {lines("  - 1", "  -", "    - 2 # two"), "[0,[2]]", lines("  - 0", "  -", "    - 2 # two")},
		{lines("a: |", "  x", "  y", "b: 1"), `{"a":"x\ny\n","b":2}`, lines("a: |", "  x", "  y", "b: 2")}, {lines("a: |", "  x", "b: 1"), `{"a":"z","b":1}`, lines("a: z", "b: 1")}, {lines("'a':   [1, 2]  # f", "b: 1"), `{"a":[1,2],"b":2}`, lines("'a':   [1, 2]  # f", "b: 2")}, {lines("'a':   [1, 2]  # f", "b: 1"), `{"a":[1],"b":1}`, lines("a:", "  - 1", "b: 1")}, {lines("a: 1", "b:", "c: 3"), `{"a":1,"b":null,"c":4}`, lines("a: 1", "b:", "c: 4")}, {lines("a: 1", "b:", "# x", "c: 3"), `{"a":1,"b":{"d":0},"c":3}`, lines("a: 1", "b:", "  d: 0", "# x", "c: 3")},
		{"a: 1\n# no line feed", `{"a":2}`, "a: 2\n# no line feed"}, {"a: |\n  x", `{"a":"x\n","b":1}`, lines("a: |", "  x", "b: 1")}, {"- |-\n\n\n    x\n\n", `["x"]`, "- x\n\n"},
	} {
		v := of(t, c.v)
		s, err := splice.Yaml(c.s, v)
		a, e := splice.Any(api.FormatYaml, c.s, v)
		if s != c.want || err != api.OK || a != s || e != err {
			t.Errorf("%q, %s: %q, %d, not %q", c.s, c.v, s, err, c.want)
		}
	}
}

func TestYamlAnew(t *testing.T) { // P26.2
	deep := strings.Repeat(" ", 257)
	if s, err := splice.Yaml(deep+"a: 1\n"+deep+"b: 2\n", of(t, `{"a":1,"b":3}`)); s != "a: 1\nb: 3\n" || err != api.OK {
		t.Errorf("%q, %d", s, err)
	}
	if s, err := splice.Yaml(deep[1:]+"a: 1\n"+deep[1:]+"b: 2\n", of(t, `{"a":1,"b":3}`)); s != deep[1:]+"a: 1\n"+deep[1:]+"b: 3\n" || err != api.OK {
		t.Errorf("%q, %d", s, err)
	}
	if s, err := splice.Yaml(deep+"a: 1\n"+deep+"b: 2\n", of(t, `{"a":1}`)); s != deep+"a: 1\n" || err != api.OK {
		t.Errorf("%q, %d", s, err)
	}
	// With its comment the text would be too long, without it it is not.
	long := "# " + strings.Repeat("x", api.MaxText-12) + "\na: 1\n"
	if s, err := splice.Yaml(long, of(t, `{"a":1,"b":"123456789"}`)); s != "a: 1\nb: '123456789'\n" || err != api.OK {
		t.Errorf("%.50q, %d", s, err)
	}
}

func TestWrong(t *testing.T) { // P26.1, P26.2
	long := value.Of(strings.Repeat("x", api.MaxText))
	for _, c := range []struct {
		format int
		s      string
		v      api.Value
		err    api.Errno
	}{
		{api.FormatJson, "[1,]", value.Num(1), api.ErrForm}, {api.FormatJson, "[1,]", api.Value{}, api.ErrArg}, {api.FormatJson, "1", api.Value{Kind: api.KindHole, Text: "0"}, api.ErrArg}, {api.FormatJson, `{"a":1,"a":2}`, value.Num(1), api.ErrDouble}, {api.FormatJson, "1", long, api.ErrLong}, {api.FormatJson, strings.Repeat(" ", api.MaxText) + "1", value.Num(1), api.ErrLong}, {api.FormatJson, strings.Repeat(" ", api.MaxText-1) + "1", value.Num(12), api.ErrLong}, {api.FormatJson, "1e9999999999", value.Num(1), api.ErrNum}, {api.FormatJson, strings.Repeat("[", 33), value.Num(1), api.ErrDeep},
		{api.FormatYaml, "a: b: c", value.Num(1), api.ErrForm}, {api.FormatYaml, "a: b: c", api.Value{}, api.ErrArg}, {api.FormatYaml, "a: 1", long, api.ErrLong}, {api.FormatYaml, "a: 1\na: 2", value.Num(1), api.ErrDouble}, {api.FormatYaml, strings.Repeat("#", api.MaxText+1), value.Num(1), api.ErrLong}, {api.FormatYaml, "x", value.Of("\xff"), api.ErrArg},
		{0, "1", value.Num(1), api.ErrArg}, {3, "1", value.Num(1), api.ErrArg}, {-1, "[", api.Value{}, api.ErrArg},
	} {
		if s, err := splice.Any(c.format, c.s, c.v); s != "" || err != c.err {
			t.Errorf("%d, %.30q: %.30q, %d, not %d", c.format, c.s, s, err, c.err)
		}
	}
	if s, err := splice.Json(strings.Repeat(" ", api.MaxText-1)+"1", value.Num(2)); len(s) != api.MaxText || err != api.OK {
		t.Errorf("%d bytes, %d", len(s), err)
	}
	short := value.Of(strings.Repeat("x", api.MaxText-2))
	if s, err := splice.Json("1", short); len(s) != api.MaxText || err != api.OK {
		t.Errorf("%d bytes, %d", len(s), err)
	}
	if s, err := splice.Yaml("a: 1", value.Of(strings.Repeat("x", api.MaxText-1))); len(s) != api.MaxText || err != api.OK {
		t.Errorf("%d bytes, %d", len(s), err)
	}
}

// con is a conflict with sides; nothing of a "-".
func con(t *testing.T, class int, sides ...string) api.Conflict {
	t.Helper()
	c := api.Conflict{Class: class}
	for i, s := range []*api.Side{&c.Base, &c.Left, &c.Right} {
		if sides[i] != "-" {
			*s = api.Side{Has: true, Value: of(t, sides[i])}
		}
	}
	return c
}

// hole is one of a number.
func hole(n int) api.Value { return api.Value{Kind: api.KindHole, Text: value.Num(n).Text} }

// obj is an object of keys and items, one by one.
func obj(l ...any) api.Value {
	v := api.Value{Kind: api.KindObject}
	for i := 0; i < len(l); i += 2 {
		v.Keys = append(v.Keys, l[i].(string))
		v.Items = append(v.Items, l[i+1].(api.Value))
	}
	return v
}

func arr(l ...api.Value) api.Value { return api.Value{Kind: api.KindArray, Items: l} }

func TestParts(t *testing.T) { // P26.3
	change, drop := con(t, api.ClassChange, "0", "1", "[2]"), con(t, api.ClassDrop, "0", "-", "2")
	insert := con(t, api.ClassInsert, "[]", "[1,2]", "[3]")
	one := value.Num(1)
	h := func(base, left, right string) api.Part {
		return api.Part{Hunk: true, Sides: [3]string{base, left, right}}
	}
	x := func(s string) api.Part { return api.Part{Text: s} }
	for _, c := range []struct {
		format int
		s      string
		v      api.Value
		l      []api.Conflict
		parts  []api.Part
		groups [][]int
	}{
		{api.FormatJson, " [1, 2]", arr(one), nil, []api.Part{x(" [1]")}, nil}, {api.FormatYaml, "", api.Value{Kind: api.KindNull}, nil, nil, nil}, {api.FormatYaml, "a: 1 # c\n", obj("a", one), nil, []api.Part{x("a: 1 # c\n")}, nil},
		{api.FormatJson, `{ "a" : 1 }`, obj("b", hole(1), "a", one, "c", arr(hole(2), hole(0))), []api.Conflict{change, drop, insert}, []api.Part{x("{"), h("\n\"b\": 0,", "", "\n\"b\": 2,"), h("\n\"c\": [0],", "\n\"c\": [1,2,1],", "\n\"c\": [3,[2]],"), x(` "a" : 1 }`)}, [][]int{{1}, {0, 2}}},
		{api.FormatJson, ` {"x":0}`, obj("a", hole(0), "\"", value.Of("q")), []api.Conflict{change}, []api.Part{x(" {"), h("\n\"a\": 0,", "\n\"a\": 1,", "\n\"a\": [2],"), x(`"\"":"q"}`)}, [][]int{{0}}},
		{api.FormatJson, `[ 5 ]`, arr(one, hole(0)), []api.Conflict{change}, []api.Part{h("[ 1, 0 ]", "[ 1, 1 ]", "[ 1, [2] ]")}, [][]int{{0}}}, {api.FormatJson, `{ "a" : 5 }`, obj("a", arr(hole(1), hole(0))), []api.Conflict{change, drop}, []api.Part{h(`{ "a" : [0,0] }`, `{ "a" : [1] }`, `{ "a" : [2,[2]] }`)}, [][]int{{0, 1}}}, {api.FormatJson, " 5 ", hole(0), []api.Conflict{change}, []api.Part{h(" 0 ", " 1 ", " [2] ")}, [][]int{{0}}}, {api.FormatJson, "5", hole(0), []api.Conflict{insert}, []api.Part{h("[]", "[1,2]", "[3]")}, [][]int{{0}}},
		{api.FormatYaml, lines("# c", "a: 1 # d"), obj("b", hole(0), "a", one, "'", obj("y", hole(1))), []api.Conflict{drop, change}, []api.Part{x("# c\n"), h("b: 0\n", "", "b: 2\n"), h("'''':\n  y: 0\n", "'''':\n  y: 1\n", "'''':\n  y:\n    - 2\n"), x("a: 1 # d\n")}, [][]int{{0}, {1}}}, {api.FormatYaml, lines("  a: 2"), obj("b", hole(0), "a", one), []api.Conflict{change}, []api.Part{h("  b: 0\n", "  b: 1\n", "  b:\n    - 2\n"), x("  a: 1\n")}, [][]int{{0}}},
		{api.FormatYaml, `{"a": 1, "z": 2}`, obj("b", hole(0), "a", one), []api.Conflict{change}, []api.Part{h("b: 0\n", "b: 1\n", "b:\n  - 2\n"), x("a: 1\n")}, [][]int{{0}}}, {api.FormatYaml, `{"a": 1}  # c`, obj("b", hole(0), "a", one), []api.Conflict{change}, []api.Part{h("b: 0\na: 1\n", "b: 1\na: 1\n", "b:\n  - 2\na: 1\n")}, [][]int{{0}}}, {api.FormatYaml, strings.Repeat(" ", 257) + "a: 1\n", obj("a", one, "b", hole(0)), []api.Conflict{change}, []api.Part{h("a: 1\nb: 0\n", "a: 1\nb: 1\n", "a: 1\nb:\n  - 2\n")}, [][]int{{0}}}, {api.FormatYaml, "- 5 # c\n- 6", arr(value.Num(5), hole(0)), []api.Conflict{change}, []api.Part{h("- 5 # c\n- 0\n", "- 5 # c\n- 1\n", "- 5 # c\n-\n  - 2\n")}, [][]int{{0}}},
		{api.FormatYaml, strings.Repeat(" ", 256) + "a: 1\n", obj("a", one, "b", hole(0)), []api.Conflict{change}, []api.Part{h(strings.Repeat(" ", 256)+"b: 0\n", strings.Repeat(" ", 256)+"b: 1\n", strings.Repeat(" ", 256)+"b:\n"+strings.Repeat(" ", 258)+"- 2\n"), x(strings.Repeat(" ", 256) + "a: 1\n")}, [][]int{{0}}},
	} {
		parts, groups, err := splice.Parts(c.format, c.s, c.v, c.l)
		if !slices.Equal(parts, c.parts) || !slices.EqualFunc(groups, c.groups, slices.Equal[[]int]) || err != api.OK {
			t.Errorf("%.60q, %v: %q, %v, %d", c.s, c.v, told(parts), groups, err)
		}
	}
}

// told are parts as texts.
func told(l []api.Part) []string {
	var all []string
	for _, p := range l {
		all = append(all, p.Text+strings.Join(p.Sides[:], "|"))
	}
	return all
}

func TestPartsWrong(t *testing.T) { // P26.3
	change, drop := con(t, api.ClassChange, "0", "1", "[2]"), con(t, api.ClassDrop, "0", "-", "2")
	bad := change
	bad.Right.Value = api.Value{}
	one := value.Num(1)
	long := change
	long.Right.Value = value.Of(strings.Repeat("x", api.MaxText))
	for _, c := range []struct {
		format int
		s      string
		v      api.Value
		l      []api.Conflict
		err    api.Errno
	}{
		{0, "1", one, nil, api.ErrArg}, {3, "[", one, nil, api.ErrArg}, {api.FormatJson, "1", hole(0), nil, api.ErrArg}, {api.FormatJson, "[", one, []api.Conflict{change}, api.ErrArg}, {api.FormatJson, "[", hole(0), []api.Conflict{bad}, api.ErrArg}, {api.FormatJson, "[", hole(0), []api.Conflict{change}, api.ErrForm}, {api.FormatJson, "[", one, nil, api.ErrForm}, {api.FormatYaml, "a: b: c", obj("a", one, "b", hole(0)), []api.Conflict{change}, api.ErrForm}, {api.FormatJson, "1", hole(0), []api.Conflict{drop}, api.ErrNone}, {api.FormatYaml, "1", hole(0), []api.Conflict{drop}, api.ErrNone}, {api.FormatJson, "1", hole(0), []api.Conflict{long}, api.ErrLong}, {api.FormatJson, "1", api.Value{}, nil, api.ErrArg}, {0, "1", hole(0), []api.Conflict{drop}, api.ErrArg}, {0, "1", hole(0), []api.Conflict{con(t, api.ClassAdd, "-", "1", "2")}, api.ErrArg},
	} {
		if parts, groups, err := splice.Parts(c.format, c.s, c.v, c.l); parts != nil || groups != nil || err != c.err {
			t.Errorf("%d, %q: %v, %v, %d, not %d", c.format, c.s, parts, groups, err, c.err)
		}
	}
	// The base alone is nothing: that is no error ahead of it being needed.
	gone := con(t, api.ClassAdd, "-", "1", "2")
	if parts, _, err := splice.Parts(api.FormatJson, `{}`, obj("a", hole(0), "b", one), []api.Conflict{gone}); len(parts) != 3 || parts[1].Sides != [3]string{"", "\n\"a\": 1,", "\n\"a\": 2,"} || err != api.OK {
		t.Errorf("%v, %d", parts, err)
	}
	if parts, _, err := splice.Parts(api.FormatJson, "1", hole(0), []api.Conflict{gone}); parts != nil || err != api.ErrNone {
		t.Errorf("%v, %d", parts, err)
	}
	if parts, _, err := splice.Parts(api.FormatJson, "{}", obj("a", hole(0), "b", one), []api.Conflict{long}); len(parts) != 3 || len(parts[1].Sides[2]) != api.MaxText+9 || err != api.OK {
		t.Errorf("a long member: %d parts, %d", len(parts), err)
	}
}

// write is a value as a text of a format, written in one of several ways.
func write(x *samples.Source, format int, v api.Value) string {
	if format == api.FormatYaml {
		s, _ := yprint.Print(v)
		if x.Under(3) == 0 {
			s = "# head\n\n" + s + "# tail"
		}
		return s
	}
	s, _ := print.Pretty(v, x.Under(5), 0)
	if x.Under(3) == 0 {
		s, _ = print.Compact(v)
	}
	return " " + s + "\n"
}

func TestWhatIsSpliced(t *testing.T) { // P26.4, P26.5
	x := samples.New(50)
	for _, v := range samples.Values(50, 300) {
		for format := api.FormatJson; format <= api.FormatYaml; format++ {
			s := write(x, format, v)
			w := x.Turned(x.Turned(v))
			in := samples.Roomy(w)
			got, err := splice.Any(format, s, in)
			back, _, e := yread.Any(format, got)
			if !value.Same(back, w) || err != api.OK || e != api.OK {
				t.Errorf("%q, %v: %q, %d", s, w, got, err)
			}
			if !samples.Untouched(in, w) {
				t.Errorf("%v was turned", w)
			}
			for _, same := range []api.Value{v, x.Shuffled(v)} {
				if got, err := splice.Any(format, s, same); got != s || err != api.OK {
					t.Errorf("%q: %q, %d", s, got, err)
				}
			}
		}
	}
}

func TestBytesStay(t *testing.T) { // P26.7
	x := samples.New(51)
	for _, v := range samples.Values(51, 200) {
		if v.Kind != api.KindObject || len(v.Items) < 2 {
			continue
		}
		k := x.Under(len(v.Items))
		w := value.Copy(v)
		w.Items[k] = x.Turned(v.Items[k])
		s := write(x, api.FormatJson, v)
		got, _ := splice.Json(s, w)
		old, _, _ := json.Parse(s)
		fresh, _, err := json.Parse(got)
		if err != api.OK {
			t.Fatalf("%q: %d", got, err)
		}
		for i, kid := range fresh.Nodes[0].Kids {
			if i != k && json.Slice(fresh, fresh.Nodes[0].Pieces[i]) != json.Slice(old, old.Nodes[0].Pieces[i]) {
				t.Errorf("%q, %v: %q at %d", s, w, got, kid)
			}
		}
		s = write(x, api.FormatYaml, v)
		got, _ = splice.Yaml(s, w)
		a, _, _ := yaml.Parse(s)
		for i, kid := range a.Nodes[0].Kids {
			n := a.Nodes[kid]
			from := a.Nodes[0].From
			if i > 0 {
				from = a.Nodes[a.Nodes[0].Kids[i-1]].To
			}
			own := s[a.Lines[from].Span.From:a.Lines[n.To-1].Span.To]
			if i != k && a.Nodes[0].Kind == api.NodeMap && !strings.Contains(got, own) {
				t.Errorf("%q, %v: %q", s, w, got)
			}
		}
	}
}

func TestPartsArePicked(t *testing.T) { // P26.4, P26.6
	x := samples.New(52)
	hunks := 0
	for _, b := range samples.Values(52, 500) {
		l, r := x.Turned(x.Turned(b)), x.Turned(x.Turned(b))
		v, conflicts, err := merge.Merge(b, l, r, nil)
		if err != api.OK {
			t.Fatal(err)
		}
		for format := api.FormatJson; format <= api.FormatYaml; format++ {
			s := write(x, format, l)
			in := samples.Roomy(v)
			parts, groups, err := splice.Parts(format, s, in, conflicts)
			if !samples.Untouched(in, v) {
				t.Errorf("%v was turned", v)
			}
			if err != api.OK {
				if err != api.ErrNone || v.Kind != api.KindHole {
					t.Errorf("%q, %v: %d", s, v, err)
				}
				continue
			}
			n := 0
			for _, p := range parts {
				if p.Hunk {
					n++
				}
			}
			if !mark.Right(parts) || n != len(groups) {
				t.Fatalf("%q, %v: %q, %v", s, v, told(parts), groups)
			}
			hunks += n
			for range 4 {
				var pick []int
				picks := make([]int, len(conflicts))
				count := 0
				for _, g := range groups {
					pick = append(pick, x.Under(3))
					for _, k := range g {
						picks[k] = pick[len(pick)-1]
						count++
					}
				}
				if count != len(conflicts) {
					t.Errorf("%v: %v", v, groups)
				}
				text, err := mark.Pick(parts, pick)
				want, e := merge.Choose(v, conflicts, picks)
				got, _, f := yread.Any(format, text)
				if !value.Same(got, want) || err != api.OK || e != api.OK || f != api.OK {
					t.Errorf("%q, %v, %v: %q, %d, %d, %d", s, v, picks, text, err, e, f)
				}
			}
			for _, g := range groups {
				if !slices.IsSorted(g) {
					t.Errorf("%v", groups)
				}
				_ = append(g, -7)
				g[0] = -7
			}
			_, again, _ := splice.Parts(format, s, v, conflicts)
			for _, g := range again {
				if g[0] < 0 {
					t.Error("an answer is no new memory")
				}
			}
		}
	}
	if hunks < 100 {
		t.Errorf("only %d hunks", hunks)
	}
}
