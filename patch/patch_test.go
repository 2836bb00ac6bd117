package patch_test

import (
	"slices"
	"strconv"
	"strings"
	"testing"

	"scarf/api"
	"scarf/patch"
	"scarf/pointer"
	"scarf/print"
	"scarf/read"
	"scarf/samples"
	"scarf/value"
)

// of is the value of a text.
func of(t *testing.T, s string) api.Value {
	t.Helper()
	v, _, err := read.Read(s)
	if err != api.OK {
		t.Fatalf("%s: %d", s, err)
	}
	return v
}

// text is a value as one; of a tree that is zero nothing.
func text(v api.Value) string {
	s, _ := print.Compact(v)
	return s
}

// steps are those of a text.
func steps(t *testing.T, s string) []api.Op {
	t.Helper()
	l, _, err := patch.Parse(of(t, s))
	if err != api.OK {
		t.Fatalf("%s: %d", s, err)
	}
	return l
}

// same holds steps against each other.
func same(a, b api.Op) bool {
	return a.Do == b.Do && slices.Equal(a.Path, b.Path) && slices.Equal(a.From, b.From) && samples.Same(a.Value, b.Value)
}

func TestRight(t *testing.T) { // P21.1
	p, one := []string{"a"}, value.Num(1)
	for _, o := range []api.Op{
		{Do: "add", Path: p, Value: one}, {Do: "add", Value: one}, {Do: "replace", Path: p, Value: one}, {Do: "test", Path: p, Value: one, From: []string{}}, {Do: "remove", Path: p}, {Do: "remove"}, {Do: "move", Path: p, From: p}, {Do: "move"}, {Do: "copy", From: p},
		{Do: "remove", Path: slices.Repeat(p, 64), Value: api.Value{Keys: []string{}, Items: []api.Value{}}},
	} {
		if !patch.Right(o) {
			t.Errorf("%v", o)
		}
	}
	for _, o := range wrong() {
		if patch.Right(o) {
			t.Errorf("%v", o)
		}
	}
}

// wrong are steps that are not right.
func wrong() []api.Op {
	p, one := []string{"a"}, value.Num(1)
	return []api.Op{
		{}, {Do: "Add", Value: one}, {Do: "add"}, {Do: "add", Value: api.Value{Kind: api.KindHole, Text: "0"}}, {Do: "add", Value: one, From: p}, {Do: "replace"}, {Do: "test"}, {Do: "test", Value: value.Of("\xff")}, {Do: "remove", Value: one}, {Do: "remove", From: p}, {Do: "move", Value: one}, {Do: "copy", Value: one},
		{Do: "copy", From: p, Value: api.Value{Text: "x"}}, {Do: "remove", Path: []string{"\xff"}}, {Do: "remove", Path: slices.Repeat(p, 65)}, {Do: "move", From: []string{"\xff"}}, {Do: "copy", From: slices.Repeat(p, 65)}, {Do: "replace", Value: one, From: p}, {Do: "test", Value: one, From: p}, {Do: "", Path: p}, {Do: "remove", Value: api.Value{Keys: p}},
	}
}

func TestApply(t *testing.T) { // P21.1
	for _, c := range []struct {
		v, steps, want string
		n              int
		err            api.Errno
	}{
		{`{"a":[1,2]}`, `[{"op":"add","path":"/a/1","value":9},{"op":"remove","path":"/a/0"}]`, `{"a":[9,2]}`, 2, api.OK}, {"[1]", `[{"op":"move","path":"/0","from":"/0/0"}]`, "", 0, api.ErrNone}, {"[1]", `[{"op":"test","path":"/0","value":2}]`, "", 0, api.ErrTest}, {"1", "[]", "1", 0, api.OK},
		{`{"b":1}`, `[{"op":"add","path":"/a","value":2}]`, `{"b":1,"a":2}`, 1, api.OK}, {`{"b":1,"c":3}`, `[{"op":"add","path":"/b","value":[]}]`, `{"b":[],"c":3}`, 1, api.OK}, {"[1,2]", `[{"op":"add","path":"/2","value":3}]`, "[1,2,3]", 1, api.OK}, {"[1,2]", `[{"op":"add","path":"/-","value":3}]`, "[1,2,3]", 1, api.OK}, {"[1,2]", `[{"op":"add","path":"/0","value":3}]`, "[3,1,2]", 1, api.OK}, {"[]", `[{"op":"add","path":"","value":{"a":1}}]`, `{"a":1}`, 1, api.OK},
		{"[1]", `[{"op":"add","path":"/2","value":3}]`, "", 0, api.ErrNone}, {"[1]", `[{"op":"add","path":"/01","value":3}]`, "", 0, api.ErrNone}, {"[1]", `[{"op":"add","path":"/a","value":3}]`, "", 0, api.ErrNone}, {"[1]", `[{"op":"add","path":"/0/a","value":3}]`, "", 0, api.ErrNone}, {`{"a":1}`, `[{"op":"add","path":"/b/c","value":3}]`, "", 0, api.ErrNone}, {`{"a":1}`, `[{"op":"add","path":"/-","value":3}]`, `{"a":1,"-":3}`, 1, api.OK}, {`"x"`, `[{"op":"add","path":"/0","value":3}]`, "", 0, api.ErrNone}, {`{"0":[]}`, `[{"op":"add","path":"/0/0","value":3}]`, `{"0":[3]}`, 1, api.OK},
		{`{"a":1,"b":2,"c":3}`, `[{"op":"remove","path":"/b"}]`, `{"a":1,"c":3}`, 1, api.OK}, {"[1,2,3]", `[{"op":"remove","path":"/1"}]`, "[1,3]", 1, api.OK}, {"[1]", `[{"op":"remove","path":""}]`, "", 0, api.ErrArg}, {"[1]", `[{"op":"remove","path":"/1"}]`, "", 0, api.ErrNone}, {"[1]", `[{"op":"remove","path":"/-"}]`, "", 0, api.ErrNone}, {"{}", `[{"op":"remove","path":"/a"}]`, "", 0, api.ErrNone}, {"[[1]]", `[{"op":"remove","path":"/0/0"},{"op":"remove","path":"/0/0"}]`, "", 1, api.ErrNone},
		{`{"a":1,"b":2}`, `[{"op":"replace","path":"/a","value":3}]`, `{"a":3,"b":2}`, 1, api.OK}, {"[1,2]", `[{"op":"replace","path":"/1","value":[3]}]`, "[1,[3]]", 1, api.OK}, {"1", `[{"op":"replace","path":"","value":2}]`, "2", 1, api.OK}, {"[1]", `[{"op":"replace","path":"/1","value":2}]`, "", 0, api.ErrNone}, {"[1]", `[{"op":"replace","path":"/-","value":2}]`, "", 0, api.ErrNone},
		{`{"a":1,"b":2}`, `[{"op":"move","path":"/c","from":"/a"}]`, `{"b":2,"c":1}`, 1, api.OK}, {"[1,2,3]", `[{"op":"move","path":"/2","from":"/0"}]`, "[2,3,1]", 1, api.OK}, {"[1,2,3]", `[{"op":"move","path":"/3","from":"/0"}]`, "", 0, api.ErrNone}, {"[1,2,3]", `[{"op":"move","path":"/-","from":"/0"}]`, "[2,3,1]", 1, api.OK}, {`{"a":{"b":1}}`, `[{"op":"move","path":"/a/b/c","from":"/a"}]`, "", 0, api.ErrArg}, {`{"a":{"b":1}}`, `[{"op":"move","path":"/a/x","from":"/a"}]`, "", 0, api.ErrArg}, {`{"a":{"b":1}}`, `[{"op":"move","path":"/a","from":"/a/b"}]`, `{"a":1}`, 1, api.OK}, {`{"a":{"b":1}}`, `[{"op":"move","path":"","from":"/a/b"}]`, "1", 1, api.OK}, {`{"a":1,"b":2}`, `[{"op":"move","path":"/a","from":"/a"}]`, `{"a":1,"b":2}`, 1, api.OK}, {"[1]", `[{"op":"move","path":"/0","from":""}]`, "", 0, api.ErrArg}, {"[1]", `[{"op":"move","path":"","from":""}]`, "[1]", 1, api.OK}, {"[1]", `[{"op":"move","path":"/1/0","from":"/1"}]`, "", 0, api.ErrNone}, {`{"a":1,"b":{"c":2}}`, `[{"op":"move","path":"/a","from":"/b/c"}]`, `{"a":2,"b":{}}`, 1, api.OK}, {"[1,[2]]", `[{"op":"move","path":"/1/0","from":"/0"}]`, "", 0, api.ErrNone}, {"[[2],[1],3]", `[{"op":"move","path":"/1/0","from":"/0"}]`, "", 0, api.ErrNone},
		{`{"a":[1]}`, `[{"op":"copy","path":"/b","from":"/a"},{"op":"add","path":"/b/0","value":0}]`, `{"a":[1],"b":[0,1]}`, 2, api.OK}, {"[1]", `[{"op":"copy","path":"/0","from":""}]`, "[[1],1]", 1, api.OK}, {"[1]", `[{"op":"copy","path":"/0","from":"/1"}]`, "", 0, api.ErrNone}, {"[1]", `[{"op":"copy","path":"/5","from":"/0"}]`, "", 0, api.ErrNone}, {`{"a":1}`, `[{"op":"copy","path":"/a/b","from":"/a"}]`, "", 0, api.ErrNone}, {`{"a":{}}`, `[{"op":"copy","path":"/a/b","from":"/a"}]`, `{"a":{"b":{}}}`, 1, api.OK},
		{`{"a":{"x":1,"y":2}}`, `[{"op":"test","path":"/a","value":{"y":2,"x":1.0}}]`, `{"a":{"x":1,"y":2}}`, 1, api.OK}, {"[1]", `[{"op":"test","path":"/1","value":1}]`, "", 0, api.ErrNone}, {"1", `[{"op":"test","path":"","value":"1"}]`, "", 0, api.ErrTest}, {"[1,2]", `[{"op":"test","path":"","value":[1,2]},{"op":"test","path":"/0","value":2},{"op":"remove","path":"/9"}]`, "", 1, api.ErrTest},
	} {
		v := of(t, c.v)
		w, n, err := patch.Apply(v, steps(t, c.steps))
		if text(w) != c.want || n != c.n || err != c.err {
			t.Errorf("%s, %s: %s, %d, %d", c.v, c.steps, text(w), n, err)
		}
	}
	for _, v := range []api.Value{{}, {Kind: api.KindHole, Text: "0"}} {
		for _, l := range [][]api.Op{nil, {{}}, {{Do: "replace", Value: value.Num(1)}}} {
			if w, n, err := patch.Apply(v, l); !samples.Zero(w) || n != 0 || err != api.ErrArg {
				t.Errorf("%v, %v: %v, %d, %d", v, l, w, n, err)
			}
		}
	}
	for _, o := range wrong() {
		if w, n, err := patch.Apply(value.Num(1), []api.Op{{Do: "replace", Value: value.Num(2)}, o}); !samples.Zero(w) || n != 1 || err != api.ErrArg {
			t.Errorf("%v: %v, %d, %d", o, w, n, err)
		}
	}
}

func TestTooMuch(t *testing.T) { // P21.1
	deep := value.Num(1)
	for range api.MaxDepth - 1 {
		deep = api.Value{Kind: api.KindArray, Items: []api.Value{deep}}
	}
	for _, c := range []struct {
		v   api.Value
		o   api.Op
		err api.Errno
	}{
		{of(t, "[1]"), api.Op{Do: "add", Path: []string{"0"}, Value: deep}, api.ErrArg}, {of(t, "[1]"), api.Op{Do: "replace", Path: []string{"0"}, Value: deep.Items[0]}, api.OK}, {of(t, "[1]"), api.Op{Do: "replace", Path: []string{"0"}, Value: deep}, api.ErrArg}, {deep, api.Op{Do: "copy", Path: []string{"0"}, From: []string{}}, api.ErrArg}, {deep, api.Op{Do: "add", Path: slices.Repeat([]string{"0"}, 31), Value: value.Num(2)}, api.OK}, {deep, api.Op{Do: "add", Path: append(slices.Repeat([]string{"0"}, 30), "1"), Value: of(t, "[2]")}, api.ErrArg},
	} {
		if w, n, err := patch.Apply(c.v, []api.Op{{Do: "test", Value: c.v}, c.o}); err != c.err || err != api.OK && (n != 1 || !samples.Zero(w)) {
			t.Errorf("%v: %d, %d", c.o, n, err)
		}
	}
	many := api.Value{Kind: api.KindArray, Items: slices.Repeat([]api.Value{value.Num(1)}, api.MaxNodes-1)}
	for path, want := range map[string]api.Errno{"-": api.ErrArg, "0": api.ErrArg, "9": api.ErrArg} {
		if w, n, err := patch.Apply(many, []api.Op{{Do: "remove", Path: []string{"0"}}, {Do: "copy", Path: []string{"-"}, From: []string{"0"}}, {Do: "add", Path: []string{path}, Value: value.Num(1)}}); err != want || n != 2 || !samples.Zero(w) {
			t.Errorf("%s: %d, %d", path, n, err)
		}
	}
}

func TestTextAndParse(t *testing.T) { // P21.2, P21.3
	for _, s := range []string{
		"[]", `[{"op":"add","path":"/a~1b","value":{"x":[null]}},{"op":"remove","path":""},{"op":"replace","path":"/0","value":1},{"op":"move","path":"/a","from":"/b"},{"op":"copy","path":"/a","from":""},{"op":"test","path":"/a","value":""}]`,
	} {
		l, n, err := patch.Parse(of(t, s))
		v, e := patch.Text(l)
		if text(v) != s || n != len(l) || n != len(of(t, s).Items) || err != api.OK || e != api.OK {
			t.Errorf("%s: %s, %d, %d, %d", s, text(v), n, err, e)
		}
	}
	l, n, err := patch.Parse(of(t, `[{"x":0,"value":[1],"from":3,"path":"/a/0","op":"add"},{"path":"","op":"remove","value":1,"from":"x"},{"op":"move","from":"/~0","path":"/b","value":0}]`))
	want := []api.Op{{Do: "add", Path: []string{"a", "0"}, Value: of(t, "[1]")}, {Do: "remove"}, {Do: "move", Path: []string{"b"}, From: []string{"~"}}}
	if !slices.EqualFunc(l, want, same) || n != 3 || err != api.OK {
		t.Errorf("%v, %d, %d", l, n, err)
	}
	good := `{"op":"remove","path":"/a"}`
	for s, at := range map[string]int{
		"1": 0, "{}": 0, good: 0, "null": 0, "[1]": 0, "[[]]": 0, "[{}]": 0, `[{"op":"remove"}]`: 0, `[{"path":"/a"}]`: 0, `[{"op":"Remove","path":"/a"}]`: 0, `[{"op":1,"path":"/a"}]`: 0, `[{"op":"remove","path":1}]`: 0, `[{"op":"remove","path":"a"}]`: 0, `[{"op":"remove","path":"/~2"}]`: 0, `[{"op":"add","path":"/a"}]`: 0, `[{"op":"test","path":"/a"}]`: 0, `[{"op":"replace","path":"/a"}]`: 0, `[{"op":"move","path":"/a"}]`: 0, `[{"op":"copy","path":"/a","from":1}]`: 0, `[{"op":"copy","path":"/a","from":"x"}]`: 0, `[{"op":"add","value":1}]`: 0,
		"[" + good + ",1]": 1, "[" + good + "," + good + `,{"op":"x","path":""},2]`: 2, `[{"op":"remove","path":"` + strings.Repeat("/a", 65) + `"}]`: 0,
	} {
		if l, n, err := patch.Parse(of(t, s)); l != nil || n != at || err != api.ErrForm {
			t.Errorf("%s: %v, %d, %d", s, l, n, err)
		}
	}
	for _, v := range []api.Value{{}, {Kind: api.KindArray, Items: []api.Value{of(t, good), {}}}, {Kind: api.KindArray, Items: []api.Value{{Kind: api.KindHole, Text: "0"}}}} {
		if l, n, err := patch.Parse(v); l != nil || n != 0 || err != api.ErrForm {
			t.Errorf("%v: %v, %d, %d", v, l, n, err)
		}
	}
}

func TestTextWrong(t *testing.T) { // P21.2
	remove := api.Op{Do: "remove", Path: []string{"a"}}
	for _, o := range wrong() {
		if v, err := patch.Text([]api.Op{remove, o}); !samples.Zero(v) || err != api.ErrArg {
			t.Errorf("%v: %v, %d", o, v, err)
		}
	}
	for _, c := range []struct {
		n   int
		err api.Errno
	}{{1365, api.OK}, {1366, api.ErrArg}, {api.MaxOps, api.ErrArg}, {api.MaxOps + 1, api.ErrMany}} {
		l := slices.Repeat([]api.Op{remove}, c.n)
		if v, err := patch.Text(l); err != c.err || err != api.OK && !samples.Zero(v) {
			t.Errorf("%d steps: %d", c.n, err)
		}
	}
	if v, err := patch.Text(append(slices.Repeat([]api.Op{remove}, api.MaxOps), api.Op{})); !samples.Zero(v) || err != api.ErrArg {
		t.Errorf("too many, and a wrong one: %d", err)
	}
	deep := value.Num(1)
	for range 30 {
		deep = api.Value{Kind: api.KindArray, Items: []api.Value{deep}}
	}
	if _, err := patch.Text([]api.Op{{Do: "add", Value: deep}}); err != api.ErrArg {
		t.Errorf("too deep: %d", err)
	}
	if _, err := patch.Text([]api.Op{{Do: "add", Value: deep.Items[0]}}); err != api.OK {
		t.Errorf("as deep as may be: %d", err)
	}
}

func TestNewMemory(t *testing.T) { // P21.4
	item := of(t, `{"a":[1,[2]]}`)
	o := api.Op{Do: "add", Path: append(make([]string, 0, 4), "x"), Value: samples.Roomy(item)}
	v, err := patch.Text([]api.Op{o, o})
	if err != api.OK {
		t.Fatal(err)
	}
	whole := value.Copy(v)
	samples.Spoil(v.Items[0])
	if !samples.Same(v.Items[1], whole.Items[1]) || !samples.Untouched(o.Value, item) {
		t.Errorf("lists share memory: %v, %v", v.Items[1], o.Value)
	}
	in := samples.Roomy(whole)
	l, n, err := patch.Parse(in)
	if n != 2 || err != api.OK {
		t.Fatal(err)
	}
	samples.Spoil(l[0].Value)
	l[0].Path[0] = "spoilt"
	if !same(l[1], o) || !samples.Untouched(in, whole) {
		t.Errorf("lists share memory: %v, %v", l[1], in)
	}
	twice, _, err := patch.Apply(of(t, `{"x":1}`), []api.Op{o, {Do: "copy", Path: []string{"y"}, From: []string{"x"}}, {Do: "add", Path: []string{"z"}, Value: o.Value}})
	if err != api.OK {
		t.Fatal(err)
	}
	samples.Spoil(twice.Items[0])
	if !samples.Same(twice.Items[1], item) || !samples.Same(twice.Items[2], item) || !samples.Untouched(o.Value, item) {
		t.Errorf("lists share memory: %v", twice)
	}
	old := slices.Clone(o.Path[:4])
	patch.Apply(of(t, `{"x":1}`), []api.Op{o})
	if !slices.Equal(o.Path[:4], old) {
		t.Error("spare room was written")
	}
}

// paths are those of a value's nodes.
func paths(v api.Value, at []string) [][]string {
	l := [][]string{at}
	for i, item := range v.Items {
		step := strconv.Itoa(i)
		if v.Kind == api.KindObject {
			step = v.Keys[i]
		}
		l = append(l, paths(item, append(slices.Clone(at), step))...)
	}
	return l
}

func TestLaws(t *testing.T) { // P21.4, P21.5, P21.6, P21.7
	x := samples.New(42)
	all := samples.Values(42, 120)
	for k, v := range all {
		nodes := paths(v, nil)
		var l []api.Op
		for range 4 {
			p, q := nodes[x.Under(len(nodes))], nodes[x.Under(len(nodes))]
			do := []string{"add", "remove", "replace", "move", "copy", "test"}[x.Under(6)]
			o := api.Op{Do: do, Path: append(slices.Clone(p), []string{"0", "-", x.Word()}[x.Under(3)])}
			switch do {
			case "add", "replace":
				o.Value = samples.Roomy(all[(k+7)%len(all)])
			case "move", "copy":
				o.From = q
			case "test":
				o.Path, o.Value = p, api.Value{Kind: api.KindNull}
				o.Value, _ = pointer.Find(v, p)
			default:
				o.Path = p
			}
			l = append(l, o)
		}
		s, err := patch.Text(l)
		if back, n, e := patch.Parse(s); !slices.EqualFunc(back, l, same) || n != len(l) || err != api.OK || e != api.OK {
			t.Errorf("%v: %v", l, back)
		}
		in := samples.Roomy(v)
		whole, n, err := patch.Apply(in, l)
		part, at := v, 0
		e := api.OK
		for at < len(l) && e == api.OK {
			if part, _, e = patch.Apply(part, l[at:at+1]); e == api.OK {
				at++
			}
		}
		if !samples.Same(whole, part) || n != at || err != e {
			t.Errorf("%v, %v: %v, %d, %d; part by part %v, %d, %d", v, l, whole, n, err, part, at, e)
		}
		samples.Spoil(whole)
		if !samples.Untouched(in, v) {
			t.Errorf("%v was turned", v)
		}
		for _, o := range l {
			if (o.Do == "add" || o.Do == "replace") && !samples.Untouched(o.Value, all[(k+7)%len(all)]) {
				t.Errorf("%v was turned", o.Value)
			}
		}
		for _, p := range nodes {
			node, _ := pointer.Find(v, p)
			if w, _, err := patch.Apply(v, []api.Op{{Do: "test", Path: p, Value: node}, {Do: "replace", Path: p, Value: node}}); !samples.Same(w, v) || err != api.OK {
				t.Errorf("%v, %q: %v, %d", v, p, w, err)
			}
			if node.Kind != api.KindArray && node.Kind != api.KindObject {
				continue
			}
			at := append(slices.Clone(p), map[int]string{api.KindArray: "0", api.KindObject: "a new one"}[node.Kind])
			if w, _, err := patch.Apply(v, []api.Op{{Do: "add", Path: at, Value: value.Num(7)}, {Do: "remove", Path: at}}); !samples.Same(w, v) || err != api.OK {
				t.Errorf("%v, %q: %v, %d", v, at, w, err)
			}
		}
	}
}
