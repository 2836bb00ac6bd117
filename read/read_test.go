package read_test

import (
	"slices"
	"strconv"
	"strings"
	"testing"

	"scarf/api"
	"scarf/json"
	"scarf/pointer"
	"scarf/print"
	"scarf/read"
	"scarf/samples"
	"scarf/value"
)

func num(s string) api.Value { return api.Value{Kind: api.KindNumber, Text: s} }

func arr(l ...api.Value) api.Value { return api.Value{Kind: api.KindArray, Items: l} }

func TestRead(t *testing.T) { // P9.1, P9.2
	for s, want := range map[string]api.Value{
		` [1.0, "\u0061"] `: arr(num("1"), value.Of("a")), "null": {Kind: api.KindNull}, " true": {Kind: api.KindBool, Text: "true"}, "false\n": {Kind: api.KindBool, Text: "false"}, "-0": num("0"), "1200": num("12e2"),
		"-1.50E+3": num("-15e2"), `"\ud83d\ude00\n"`: value.Of("\U0001f600\n"), "[]": arr(), "{}": {Kind: api.KindObject},
		`{"b":[],"\u0061":{"":0}}`: {Kind: api.KindObject, Keys: []string{"b", "a"}, Items: []api.Value{arr(), {Kind: api.KindObject, Keys: []string{""}, Items: []api.Value{num("0")}}}},
	} {
		if v, n, err := read.Read(s); !samples.Same(v, want) || n != len(s) || err != api.OK {
			t.Errorf("%s: %v, %d, %d", s, v, n, err)
		}
	}
	for _, s := range []string{strings.Repeat("[", 32) + strings.Repeat("]", 32), strings.Repeat(`{"a":`, 31) + "0" + strings.Repeat("}", 31)} {
		if v, n, err := read.Read(s); value.Depth(v) != api.MaxDepth || !value.Right(v) || n != len(s) || err != api.OK {
			t.Errorf("%s: %v, %d, %d", s, v, n, err)
		}
	}
	for _, s := range []string{"", "[1,]", "x", `{"a":1,"a":2}`, "1e1000001", strings.Repeat("[", 33) + strings.Repeat("]", 33), "[" + strings.Repeat("0,", api.MaxNodes) + "0]", strings.Repeat(" ", api.MaxText+1), strings.Repeat("1", 1001), "1 1"} {
		_, at, err := json.Parse(s)
		if v, n, e := read.Read(s); !samples.Zero(v) || n != at || e != err || err == api.OK {
			t.Errorf("%.30s: %v, %d, %d", s, v, n, e)
		}
	}
}

func TestNode(t *testing.T) { // P9.1
	d, _, _ := json.Parse(`{"a":[1,"x"],"b":null}`)
	for k, want := range []string{`{"a":[1,"x"],"b":null}`, `[1,"x"]`, "1", `"x"`, "null"} {
		v, ok := read.Node(d, k)
		if s, _ := print.Compact(v); s != want || !ok {
			t.Errorf("%d: %s, %v", k, s, ok)
		}
	}
	for _, k := range []int{-1, 5, api.MinInt, api.MaxInt} {
		if v, ok := read.Node(d, k); ok || !samples.Zero(v) {
			t.Errorf("%d: %v", k, v)
		}
	}
	if v, ok := read.Node(api.Doc{}, 0); ok || !samples.Zero(v) {
		t.Errorf("%v", v)
	}
}

func TestOtherDocsEnd(t *testing.T) { // P9.1, P9.3
	// Each node stands twice beneath the one ahead of it: as a tree, these are too many to be gone through.
	twice := api.Doc{Text: "null"}
	for k := range api.MaxDepth {
		twice.Nodes = append(twice.Nodes, api.Node{Kind: api.KindArray, Kids: []int{k + 1, k + 1, k + 1, k + 1}})
	}
	twice.Nodes[api.MaxDepth-1] = api.Node{Kind: api.KindNull, Span: api.Span{From: 0, To: 4}}
	for _, d := range []api.Doc{
		twice, {Nodes: []api.Node{{Kind: api.KindArray, Kids: []int{0, 0}}}}, {Nodes: []api.Node{{Kind: api.KindObject, Kids: []int{-1, 9, 0}}}}, {Nodes: []api.Node{{Kind: api.KindArray, Kids: []int{7}}}},
		{Text: `"x`, Nodes: []api.Node{{Kind: api.KindString, Span: api.Span{From: 0, To: 9}}}}, {Text: "x", Nodes: []api.Node{{Kind: api.KindNumber, Span: api.Span{From: 0, To: 1}}, {Kind: 99}}}, {Text: `"a"`, Nodes: []api.Node{{Kind: api.KindObject, Kids: []int{1, 2, 3}}, {Kind: api.KindNull, Key: api.Span{From: 2, To: 1}}, {Kind: api.KindNull, Key: api.Span{From: 0, To: 9}}, {Kind: api.KindNull, Key: api.Span{From: 0, To: 2}}}},
	} {
		for k := range d.Nodes {
			read.Node(d, k)
		}
		for _, p := range [][]string{nil, {"0"}, {"0", "0", "0"}, {"a"}, slices.Repeat([]string{"1"}, 64)} {
			read.At(d, p)
		}
	}
}

func TestAt(t *testing.T) { // P9.3
	d, _, _ := json.Parse(`{"a":[1,2],"":{"~/":[]},"0":3,"\u00e9":4}`)
	for _, c := range []struct {
		path []string
		k    int
	}{{nil, 0}, {[]string{"a"}, 1}, {[]string{"a", "0"}, 2}, {[]string{"a", "1"}, 3}, {[]string{""}, 4}, {[]string{"", "~/"}, 5}, {[]string{"0"}, 6}, {[]string{"é"}, 7}} {
		if k, ok := read.At(d, c.path); k != c.k || !ok {
			t.Errorf("%q: %d, %v", c.path, k, ok)
		}
	}
	for _, p := range [][]string{{"b"}, {"a", "2"}, {"a", "01"}, {"a", "-"}, {"a", "0", "0"}, {"", "x"}, {"\xff"}, {"a", ""}, {"", "~/", "0"}, slices.Repeat([]string{"a"}, 65)} {
		if k, ok := read.At(d, p); k != 0 || ok {
			t.Errorf("%q: %d", p, k)
		}
	}
	if k, ok := read.At(api.Doc{}, nil); k != 0 || ok {
		t.Error("a doc without nodes")
	}
}

func TestWhatIsPrinted(t *testing.T) { // P9.5
	for i, v := range samples.Values(17, 200) {
		sorted := value.Sorted(v)
		a, _ := print.Compact(v)
		b, _ := print.Canon(v)
		c, _ := print.Pretty(v, i%9, i%33)
		for s, want := range map[string]api.Value{a: v, c: v} {
			if w, n, err := read.Read(s); !samples.Same(w, want) || n != len(s) || err != api.OK || !value.Right(w) {
				t.Errorf("%s: %v, %d", s, w, err)
			}
		}
		if w, n, err := read.Read(b); !samples.Same(w, sorted) || n != len(b) || err != api.OK {
			t.Errorf("%s: %v, %d", b, w, err)
		}
	}
}

// all are the paths of a value's nodes.
func all(v api.Value, at []string) [][]string {
	l := [][]string{at}
	for i, item := range v.Items {
		step := strconv.Itoa(i)
		if v.Kind == api.KindObject {
			step = v.Keys[i]
		}
		l = append(l, all(item, append(slices.Clone(at), step))...)
	}
	return l
}

func TestPathsLeadAlike(t *testing.T) { // P9.6
	x := samples.New(18)
	for _, v := range samples.Values(18, 100) {
		s, _ := print.Pretty(v, 1, 0)
		d, _, _ := json.Parse(s)
		paths := all(v, nil)
		for range 20 {
			paths = append(paths, []string{x.Word()}, []string{x.Word(), "0"}, []string{"0", x.Word()})
		}
		for _, p := range paths {
			want, leads := pointer.Find(v, p)
			k, ok := read.At(d, p)
			if got, _ := read.Node(d, k); ok != leads || ok && !samples.Same(got, want) {
				t.Errorf("%s, %q: %d, %v", s, p, k, ok)
			}
		}
	}
}

func TestNewMemory(t *testing.T) { // P9.4
	s := `{"a":[1,2],"b":{"c":[3]}}`
	d, _, _ := json.Parse(s)
	v, _ := read.Node(d, 0)
	samples.Spoil(v)
	w, _ := read.Node(d, 0)
	if c, _ := print.Compact(w); c != s {
		t.Errorf("%s", c)
	}
	_ = append(w.Items[0].Items, num("9"))
	samples.Spoil(w.Items[0])
	if c, _ := print.Compact(w.Items[1]); c != `{"c":[3]}` {
		t.Errorf("two lists of one answer share memory: %s", c)
	}
}
