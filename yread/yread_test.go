package yread_test

import (
	"slices"
	"strconv"
	"strings"
	"testing"

	"scarf/api"
	"scarf/pointer"
	"scarf/print"
	"scarf/read"
	"scarf/samples"
	"scarf/yaml"
	"scarf/yread"
)

// texts are of JSON, of YAML, of both, of neither.
var texts = []string{
	"", "null", "a: 1", "[1]", " [1, 2] ", `{"a":1}`, "{\n\"a\":1\n}", "[1]\n", "\n[1]", "a: b: c", "- 1\n- [2]", "\t1", "\"a # b\"", "'a'", "[1", "x", "# c", "[1] # c", "{\"a\": \"x #y\"}", "\"\x7f\"", "a: 1\n b: 2", "1e9999999999", "\xff",
	"a:\n  b: |\n    x\n", "01", "tru", strings.Repeat(" ", api.MaxText+1), strings.Repeat("[", 33) + strings.Repeat("]", 33), "a: 1\na: 2", `{"a":1,"a":2}`,
}

func TestReadAndAny(t *testing.T) { // P13.1
	for _, s := range texts {
		d, at, err := yaml.Parse(s)
		want := api.Value{}
		if err == api.OK {
			want, _ = yaml.Node(d, 0)
		}
		a, n, e := yread.Read(s)
		b, m, f := yread.Any(api.FormatYaml, s)
		if !samples.Same(a, want) || !samples.Same(b, want) || n != at || m != at || e != err || f != err {
			t.Errorf("%.30q: %v, %d, %d; %v, %d, %d", s, a, n, e, b, m, f)
		}
		want, at, err = read.Read(s)
		if b, m, f = yread.Any(api.FormatJson, s); !samples.Same(b, want) || m != at || f != err {
			t.Errorf("%.30q: %v, %d, %d", s, b, m, f)
		}
		for _, format := range []int{0, 3, -1, api.MinInt, api.MaxInt} {
			if b, m, f = yread.Any(format, s); !samples.Zero(b) || m != 0 || f != api.ErrArg {
				t.Errorf("%.30q, %d: %v, %d, %d", s, format, b, m, f)
			}
		}
	}
	if v, n, err := yread.Read("a: [1.0]\n"); err != api.OK || n != 9 || !samples.Same(v, api.Value{Kind: api.KindObject, Keys: []string{"a"}, Items: []api.Value{{Kind: api.KindArray, Items: []api.Value{{Kind: api.KindNumber, Text: "1"}}}}}) {
		t.Errorf("%v, %d, %d", v, n, err)
	}
}

func TestGuess(t *testing.T) { // P13.2
	for s, want := range map[string]int{
		"[1]": api.FormatJson, "a: 1": api.FormatYaml, "a: b: c": 0, "": api.FormatYaml, "null": api.FormatJson, "{\n\"a\":1\n}": api.FormatJson, "\t1": api.FormatJson, "x": api.FormatYaml, "[1] # c": api.FormatYaml, "[1": 0, "01": api.FormatYaml, "# c": api.FormatYaml, "\xff": 0, `{"a":1,"a":2}`: 0, "'a'": api.FormatYaml, "\"a\"": api.FormatJson,
	} {
		if f, ok := yread.Guess(s); f != want || ok != (want != 0) {
			t.Errorf("%q: %d, %v", s, f, ok)
		}
	}
	for _, s := range texts {
		_, _, e := read.Read(s)
		_, _, f := yread.Read(s)
		want := 0
		if e == api.OK {
			want = api.FormatJson
		} else if f == api.OK {
			want = api.FormatYaml
		}
		if f, ok := yread.Guess(s); f != want || ok != (want != 0) {
			t.Errorf("%.30q: %d, %v", s, f, ok)
		}
	}
}

func TestAt(t *testing.T) { // P13.3
	d, _, err := yaml.Parse("a: [1, {\"x\": 2}]\n'b c':\n  - 3\n  -\n    \"d\": |\n      e\n0:\nlast: y\n")
	if err != api.OK {
		t.Fatal(err)
	}
	for _, c := range []struct {
		path     []string
		k, steps int
	}{
		{nil, 0, 0}, {[]string{"a"}, 1, 1}, {[]string{"a", "1"}, 1, 1}, {[]string{"a", "1", "x"}, 1, 1}, {[]string{"b c"}, 2, 1}, {[]string{"b c", "0"}, 3, 2}, {[]string{"b c", "1"}, 4, 2}, {[]string{"b c", "1", "d"}, 5, 3}, {[]string{"0"}, 6, 1}, {[]string{"last"}, 7, 1},
	} {
		if k, steps, ok := yread.At(d, c.path); k != c.k || steps != c.steps || !ok {
			t.Errorf("%q: %d, %d, %v", c.path, k, steps, ok)
		}
	}
	for _, p := range [][]string{{"b"}, {"a", "2"}, {"a", "1", "y"}, {"a", "01"}, {"b c", "2"}, {"b c", "-"}, {"b c", "00"}, {"b c", "1", "d", "0"}, {"0", "0"}, {"last", ""}, {"\xff"}, {"'b c'"}, slices.Repeat([]string{"a"}, 65)} {
		if k, steps, ok := yread.At(d, p); k != 0 || steps != 0 || ok {
			t.Errorf("%q: %d, %d, %v", p, k, steps, ok)
		}
	}
	wild := api.Span{From: -5, To: api.MaxInt}
	keys := api.Ydoc{Text: "ab", Nodes: []api.Ynode{{Kind: api.NodeMap, Kids: []int{1, 2, 3}}, {Key: api.Span{From: 2, To: 1}}, {Key: api.Span{From: 0, To: 3}}, {Key: api.Span{From: -1, To: 1}}}}
	for _, d := range []api.Ydoc{keys, {}, {Nodes: []api.Ynode{{Kind: api.NodeList, Kids: []int{0, -1, 9}}}}, {Nodes: []api.Ynode{{Kind: api.NodeMap, Key: wild, Rest: wild, Kids: []int{9, -1, 0}}}}, {Nodes: []api.Ynode{{Kind: 99}}}, {Nodes: []api.Ynode{{Kind: api.NodeRest, Rest: wild}}}} {
		for _, p := range [][]string{nil, {"0"}, {"1"}, {"2"}, {""}, slices.Repeat([]string{"0"}, 64)} {
			yread.At(d, p)
		}
	}
}

// all are the paths of a value's nodes, and some that lead nowhere.
func all(v api.Value, at []string) [][]string {
	l := [][]string{at, append(slices.Clone(at), "nowhere"), append(slices.Clone(at), "9")}
	for i, item := range v.Items {
		step := strconv.Itoa(i)
		if v.Kind == api.KindObject {
			step = v.Keys[i]
		}
		l = append(l, all(item, append(slices.Clone(at), step))...)
	}
	return l
}

// lines writes a value as lines down to a depth.
func lines(v api.Value, depth int, indent string) string {
	if len(v.Items) == 0 || depth == 0 {
		s, _ := print.Compact(v)
		return " " + strings.ReplaceAll(strings.ReplaceAll(s, "\x7f", `\u007f`), " #", ` \u0023`) + "\n"
	}
	s := "\n"
	for i, item := range v.Items {
		head := "-"
		if v.Kind == api.KindObject {
			key, _ := print.Compact(api.Value{Kind: api.KindString, Text: v.Keys[i]})
			head = strings.ReplaceAll(key, "\x7f", `\u007f`) + ":"
		}
		s += indent + head + lines(item, depth-1, indent+"  ")
	}
	return s
}

func TestPathsLeadAlike(t *testing.T) { // P13.4, P13.6
	for i, v := range samples.Values(26, 150) {
		s := lines(v, i%4, "")
		d, _, err := yaml.Parse(s)
		w, n, e := yread.Read(s)
		if err != api.OK || e != api.OK || n != len(s) || !samples.Same(w, v) {
			t.Fatalf("%q: %v, %d", s, w, err)
		}
		for _, p := range all(v, nil) {
			want, leads := pointer.Find(v, p)
			k, steps, ok := yread.At(d, p)
			if ok != leads {
				t.Errorf("%q, %q: %d, %d, %v", s, p, k, steps, ok)
			}
			if !ok {
				continue
			}
			node, _ := yaml.Node(d, k)
			got, _ := pointer.Find(node, p[steps:])
			if kind := d.Nodes[k].Kind; !samples.Same(got, want) || steps < len(p) && kind != api.NodeRest {
				t.Errorf("%q, %q: %d, %d leads to %v", s, p, k, steps, got)
			}
		}
		samples.Spoil(w)
		if w, _, _ = yread.Read(s); !samples.Same(w, v) {
			t.Errorf("%q: an answer is no new memory", s)
		}
	}
}

func TestJsonIsYaml(t *testing.T) { // P13.5
	for _, v := range samples.Values(27, 200) {
		s, _ := print.Compact(v)
		if strings.Contains(s, "\x7f") || strings.Contains(s, " #") {
			continue
		}
		w, _, err := yread.Read("  " + s + " ")
		if err != api.OK || (v.Kind == api.KindArray || v.Kind == api.KindObject) && !samples.Same(w, v) {
			t.Errorf("%s: %v, %d", s, w, err)
		}
	}
}
