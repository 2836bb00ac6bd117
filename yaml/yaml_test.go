package yaml_test

import (
	"slices"
	"strings"
	"testing"

	"scarf/api"
	"scarf/print"
	"scarf/runes"
	"scarf/samples"
	"scarf/value"
	"scarf/yaml"
	"scarf/yline"
)

// sp is a span written short.
func sp(from, to int) api.Span { return api.Span{From: from, To: to} }

// lines are a text's, one by one.
func lines(l ...string) string { return strings.Join(l, "\n") }

func TestValues(t *testing.T) { // P12.1, P12.2
	for s, want := range map[string]string{
		"": "null", "\n\n": "null", "# a\n": "null", "a": `"a"`, "1.0\n": "1", "'a # b' # c": `"a # b"`, "[1, {\"a\": 2}]": `[1,{"a":2}]`, "  a b # c\n\n": `"a b"`, "~": "null",
		lines("a: 1", "b:", "  - x", "  - |", "    p", "    q", ""):                                            `{"a":1,"b":["x","p\nq\n"]}`,
		lines("- 1", "-", "- ''", "-   # c", "- [ ]"):                                                          `[1,null,"",null,[]]`,
		lines("a:", "b: # c", "'c':", "\"d\\u0041\": x", "1: 2", "e f: ~"):                                     `{"a":null,"b":null,"c":null,"dA":"x","1":2,"e f":null}`,
		lines("a:", "  b:", "    c: 1", "  d: 2", "e:", "     - 3", "     -", "      f: 4", "", "# x", "g: 5"): `{"a":{"b":{"c":1},"d":2},"e":[3,{"f":4}],"g":5}`,
		lines("-", "  -", "    - 1", "  - 2", "- 3"):                                                           `[[[1],2],3]`,
		lines("# head", "", "  a: 1", "# between", "", "    # more", "  b: 2", "#"):                            `{"a":1,"b":2}`,
		lines("a:", "  x", "b:", "  # c", "    [1]"):                                                           `{"a":"x","b":[1]}`,
		lines("a:", "", "# c", "  - 1", "b: 2"):                                                                `{"a":[1],"b":2}`,
		lines("-", "  a: 1", "  b: 2", "-", "  c: 3"):                                                          `[{"a":1,"b":2},{"c":3}]`,
	} {
		d, n, err := yaml.Parse(s)
		v, ok := yaml.Node(d, 0)
		if c, _ := print.Compact(v); c != want || n != len(s) || err != api.OK || !ok || d.Text != s || !value.Right(v) {
			t.Errorf("%q: %s, %d, %d, %v", s, c, n, err, ok)
		}
	}
}

func TestLiterals(t *testing.T) { // P12.1, P12.2
	for s, want := range map[string]string{
		lines("- |", "  a", "  b"): "a\nb\n", lines("- |-", "  a", "  b", ""): "a\nb", lines("- |", "- 1"): "", lines("- |", "", "", "- 1"): "", lines("- |"): "", lines("- |-", ""): "", lines("- |", "  "): "", lines("- |", "# c"): "",
		lines("- |", "", "   a", "  ", "     b", "", "", "- 1"): "\na\n\n  b\n", lines("- |", "  a", "   ", "  b"): "a\n \nb\n", lines("- |", "      ", "   a"): "   \na\n", lines("- |", "  a: b # c", "  - 'd", "  # e"): "a: b # c\n- 'd\n# e\n",
		lines("- |-", " \ta\t", "  \t"): "\ta\t\n \t", lines("- |", "  a", " # c"): "a\n", lines("- |", "  é\ufffd", "  \"\\"): "é\ufffd\n\"\\\n", lines("- |-  # c", "  a"): "a", lines("- |", "    a", "     b", "      c", "   # d"): "a\n b\n  c\n",
		lines("-  |", " a"): "a\n",
	} {
		d, n, err := yaml.Parse(s)
		text, ok := yaml.Literal(d, 1)
		v, is := yaml.Node(d, 1)
		if text != want || n != len(s) || err != api.OK || !ok || !is || !samples.Same(v, value.Of(want)) || d.Nodes[1].Kind != api.NodeLiteral {
			t.Errorf("%q: %q, %d, %d, %v", s, text, n, err, ok)
		}
		if text, ok := yaml.Literal(d, 0); text != "" || ok {
			t.Errorf("%q: a list is a literal: %q", s, text)
		}
	}
	for _, k := range []int{-1, 2, api.MinInt, api.MaxInt} {
		d, _, _ := yaml.Parse("- |\n  a")
		text, ok := yaml.Literal(d, k)
		if v, is := yaml.Node(d, k); text != "" || ok || is || !samples.Zero(v) {
			t.Errorf("%d: %q, %v", k, text, v)
		}
	}
}

// equal holds nodes against each other; a nil list and an empty one are the same.
func equal(a, b api.Ynode) bool {
	return a.Kind == b.Kind && a.Indent == b.Indent && a.From == b.From && a.To == b.To && a.Key == b.Key && a.Rest == b.Rest && slices.Equal(a.Kids, b.Kids)
}

func TestNodes(t *testing.T) { // P12.1
	for _, c := range []struct {
		s     string
		nodes []api.Ynode
	}{
		{"", []api.Ynode{{Kind: api.NodeRest}}},
		{"# a\n\n", []api.Ynode{{Kind: api.NodeRest, Rest: sp(5, 5)}}},
		{"\n  x # y", []api.Ynode{{Kind: api.NodeRest, Indent: 2, From: 1, To: 2, Rest: sp(3, 4)}}},
		{"a: 1\n# c\n'b':  # d\n\n  - x\n  -\n    - |-\n      p\n\n# e", []api.Ynode{
			{Kind: api.NodeMap, From: 0, To: 8, Kids: []int{1, 2}},
			{Kind: api.NodeRest, From: 0, To: 1, Key: sp(0, 1), Rest: sp(3, 4)},
			{Kind: api.NodeList, Indent: 2, From: 4, To: 8, Key: sp(9, 12), Kids: []int{3, 4}},
			{Kind: api.NodeRest, Indent: 2, From: 4, To: 5, Rest: sp(24, 25)},
			{Kind: api.NodeList, Indent: 4, From: 6, To: 8, Kids: []int{5}},
			{Kind: api.NodeLiteral, Indent: 4, From: 6, To: 8, Rest: sp(36, 38)},
		}},
		{"- \n-   # c\n- |\n- [1]", []api.Ynode{
			{Kind: api.NodeList, From: 0, To: 4, Kids: []int{1, 2, 3, 4}},
			{Kind: api.NodeRest, From: 0, To: 1, Rest: sp(2, 2)},
			{Kind: api.NodeRest, From: 1, To: 2, Rest: sp(7, 7)},
			{Kind: api.NodeLiteral, From: 2, To: 3, Rest: sp(13, 14)},
			{Kind: api.NodeRest, From: 3, To: 4, Rest: sp(17, 20)},
		}},
		{"a:\n  b", []api.Ynode{
			{Kind: api.NodeMap, From: 0, To: 2, Kids: []int{1}},
			{Kind: api.NodeRest, Indent: 2, From: 1, To: 2, Key: sp(0, 1), Rest: sp(5, 6)},
		}},
	} {
		d, _, err := yaml.Parse(c.s)
		if len(d.Nodes) != len(c.nodes) || err != api.OK {
			t.Errorf("%q: %+v, %d", c.s, d.Nodes, err)
			continue
		}
		for k := range d.Nodes {
			if !equal(d.Nodes[k], c.nodes[k]) {
				t.Errorf("%q: node %d is %+v, not %+v", c.s, k, d.Nodes[k], c.nodes[k])
			}
		}
		checkLines(t, d)
	}
}

// checkLines holds a doc's lines against its text's.
func checkLines(t *testing.T, d api.Ydoc) {
	t.Helper()
	literal := map[int]int{}
	for _, n := range d.Nodes {
		if n.Kind == api.NodeLiteral {
			for i := n.From + 1; i < n.To; i++ {
				literal[i] = 1
			}
		}
	}
	spans := runes.Lines(d.Text)
	if len(spans) != len(d.Lines) {
		t.Errorf("%q: %d lines", d.Text, len(d.Lines))
		return
	}
	for i, span := range spans {
		if i < len(spans)-1 {
			span.To--
		}
		text := d.Text[span.From:span.To]
		want, _, _ := yline.Line(d.Text, span)
		if literal[i] == 1 {
			want = api.Line{Kind: api.LineText, Span: span, Indent: len(text) - len(strings.TrimLeft(text, " "))}
		}
		if d.Lines[i] != want {
			t.Errorf("%q: line %d is %+v, not %+v", d.Text, i, d.Lines[i], want)
		}
	}
}

// nest are lists in one another, around what stands behind the last sign.
func nest(n int, rest string) string {
	var b strings.Builder
	for i := range n - 1 {
		b.WriteString(strings.Repeat(" ", i) + "-\n")
	}
	return b.String() + strings.Repeat(" ", n-1) + "- " + rest
}

func TestWrong(t *testing.T) { // P12.1
	for _, c := range []struct {
		s   string
		at  int
		err api.Errno
	}{
		{"a: 1\n b: 2", 6, api.ErrForm}, {"- 1\n  - 2", 6, api.ErrForm}, {"a:\n    b: 1\n  c: 2", 14, api.ErrForm}, {"a:\n- 1", 3, api.ErrForm}, {"a: 1\n- 1", 5, api.ErrForm}, {"- 1\na: 1", 4, api.ErrForm}, {"a\nb", 2, api.ErrForm}, {"a: 1\nb", 5, api.ErrForm}, {"- 1\n  x", 6, api.ErrForm},
		{"  a: 1\nb: 2", 7, api.ErrForm}, {"a:\n  b\n  c", 9, api.ErrForm}, {"a:\n  - 1\n  b: 2", 11, api.ErrForm}, {"a:\n  b: 1\n  - 2", 12, api.ErrForm}, {"a:\n  b: 1\n # c\n   d: 2", 18, api.ErrForm}, {"a: |\n  b\n c: 1", 10, api.ErrForm},
		{"a:\tb", 2, api.ErrForm}, {"a: 1\n\tb: 2", 5, api.ErrForm}, {"a: 1\r\nb: 2", 4, api.ErrForm}, {"# \x00", 2, api.ErrForm}, {"a: 1\n# \x7f", 7, api.ErrForm}, {"a: \xff", 3, api.ErrForm}, {"\"a", 0, api.ErrForm}, {"a: 1\n\"b\n", 5, api.ErrForm}, {"a: 1\n\n \t", 7, api.ErrForm},
		{"- |\n  a\x00b", 7, api.ErrForm}, {"- |\n  a\x7f", 7, api.ErrForm}, {"- |\n  a\xc3\n\x00", 7, api.ErrForm}, {"- |\n  a\r\n", 7, api.ErrForm}, {"- |\n\x00", 4, api.ErrForm}, {"- |\n  a\n\t", 8, api.ErrForm}, {"- |\n  a\x1f\n  b\x00", 7, api.ErrForm},
		{"a b : 1", 0, api.ErrForm}, {"*a: 1", 0, api.ErrForm}, {"x: 1\n? : 1", 5, api.ErrForm}, {": : 1", 0, api.ErrForm}, {"\"\\x\": 1", 0, api.ErrForm}, {"a : x: y", 0, api.ErrForm},
		{"a: 1\na: 2", 5, api.ErrDouble}, {"a: 1\n'a': b: c", 5, api.ErrDouble}, {"a: 1\n\"\\u0061\":\n\t", 5, api.ErrDouble}, {"b:\n  a: 1\n  c: 2\n  a: 3", 19, api.ErrDouble}, {"1: 1\n'1': 2", 5, api.ErrDouble},
		{"a: b: c", 3, api.ErrForm}, {"- [1,]", 2, api.ErrForm}, {"- 'a' b", 2, api.ErrForm}, {"- \"a", 2, api.ErrForm}, {"- - 1", 2, api.ErrForm}, {"a: >", 3, api.ErrForm}, {"a: |+", 3, api.ErrForm}, {"|", 0, api.ErrForm}, {"|-\n a", 0, api.ErrForm}, {"- {\"a\":1,\"a\":2}", 2, api.ErrDouble}, {"- [1e1000001]", 2, api.ErrNum}, {"- [" + strings.Repeat("1", 1001) + "]", 2, api.ErrLong},
		{"a: &x 1", 3, api.ErrForm}, {"[1\n]", 0, api.ErrForm}, {"  [a]", 2, api.ErrForm}, {"--- a: 1", 0, api.OK}, {"a: [1]]", 3, api.ErrForm}, {"a: b: c\n\t", 3, api.ErrForm}, {"*a: b: c", 0, api.ErrForm}, {"a:\n\tb: 1", 3, api.ErrForm}, {"*a:\n\t", 0, api.ErrForm},
		{strings.Repeat("#", api.MaxText+1), 0, api.ErrLong}, {strings.Repeat("\x00", api.MaxText+1), 0, api.ErrLong},
		{nest(32, "1"), 31*32/2 + 31 + 31 + 2, api.ErrDeep}, {nest(32, ""), 31*32/2 + 31 + 31 + 2, api.ErrDeep}, {nest(32, "a: b"), 31*32/2 + 31 + 31 + 2, api.ErrDeep}, {nest(32, "|\n"+strings.Repeat(" ", 40)+"\x00"), 31*32/2 + 31 + 31 + 2, api.ErrDeep}, {nest(31, "[[]]"), 30*31/2 + 30 + 30 + 2, api.ErrDeep}, {nest(33, "1"), 32*33/2 + 32 + 32, api.ErrDeep}, {nest(33, "\t"), 32*33/2 + 32 + 32 + 2, api.ErrForm}, {nest(32, "# c"), 31*32/2 + 31 + 31 + 2, api.ErrDeep},
		{nest(31, "[["), 30*31/2 + 30 + 30 + 2, api.ErrForm}, {nest(32, "\n"+strings.Repeat(" ", 40)+"a: b: c"), 31*32/2 + 31 + 31 + 3 + 40, api.ErrDeep},
		{strings.Repeat("- 1\n", api.MaxNodes), 4*(api.MaxNodes-1) + 2, api.ErrMany}, {strings.Repeat("-\n", api.MaxNodes), 2*(api.MaxNodes-1) + 1, api.ErrMany}, {strings.Repeat("- 1\n", api.MaxNodes-1) + "- a: b", 4*(api.MaxNodes-1) + 2, api.ErrMany}, {strings.Repeat("- 1\n", api.MaxNodes-1) + "-\n  a: b", 4*(api.MaxNodes-1) + 4, api.ErrMany}, {strings.Repeat("- 1\n", api.MaxNodes-2) + "- [1]", 4*(api.MaxNodes-2) + 2, api.ErrMany},
		{strings.Repeat("- 1\n", api.MaxNodes-2) + "- []\n- |", 4*(api.MaxNodes-2) + 7, api.ErrMany}, {"- [" + strings.Repeat("1,", api.MaxNodes-4) + "1]\n- 2\n- 3", 2*api.MaxNodes + 4, api.ErrMany},
	} {
		d, at, err := yaml.Parse(c.s)
		if c.err == api.OK {
			if err != api.OK {
				t.Errorf("%q: %d, %d", c.s, at, err)
			}
			continue
		}
		if at != c.at || err != c.err || d.Text != "" || len(d.Lines)+len(d.Nodes) != 0 {
			t.Errorf("%.60q (%d bytes): %d, %d, not %d, %d", c.s, len(c.s), at, err, c.at, c.err)
		}
	}
	for _, s := range []string{nest(31, "1"), nest(31, "[]"), nest(30, "[1]"), nest(31, ""), nest(31, "|"), strings.Repeat("- 1\n", api.MaxNodes-1), strings.Repeat("- 1\n", api.MaxNodes-3) + "- [1]", strings.Repeat("#", api.MaxText), nest(31, "\n"+strings.Repeat(" ", 40)+"x")} {
		d, n, err := yaml.Parse(s)
		if v, ok := yaml.Node(d, 0); n != len(s) || err != api.OK || !ok || !value.Right(v) {
			t.Errorf("%.60q: %d, %d", s, n, err)
		}
	}
}

// write writes a value as lines, in its own way, with blank lines and comments between.
func write(x *samples.Source, v api.Value, indent string) string {
	if len(v.Items) == 0 || x.Under(5) == 0 {
		s, _ := print.Compact(v)
		if len(v.Items) == 0 && v.Kind != api.KindString || !strings.ContainsAny(s, "\x7f") && !strings.Contains(s, " #") {
			return " " + s + []string{"", "  ", " # c"}[x.Under(3)] + "\n"
		}
		return " " + strings.ReplaceAll(strings.ReplaceAll(s, "\x7f", `\u007f`), " #", ` \u0023`) + "\n"
	}
	var b strings.Builder
	b.WriteString([]string{"", " ", "  # c"}[x.Under(3)] + "\n")
	indent += strings.Repeat(" ", 1+x.Under(3))
	for i, item := range v.Items {
		b.WriteString([]string{"", "\n", "# a: b\n", "   # c\n"}[x.Under(4)])
		if v.Kind == api.KindArray {
			b.WriteString(indent + "-" + write(x, item, indent))
			continue
		}
		key, _ := print.Compact(value.Of(v.Keys[i]))
		b.WriteString(indent + strings.ReplaceAll(key, "\x7f", `\u007f`) + ":" + write(x, item, indent))
	}
	return b.String()
}

func TestManyTexts(t *testing.T) { // P12.4, P12.5, P12.6
	x := samples.New(25)
	for _, v := range samples.Values(25, 400) {
		s := "r:" + write(x, v, "")
		d, n, err := yaml.Parse(s)
		got, ok := yaml.Node(d, 0)
		if err != api.OK || n != len(s) || !ok || len(got.Items) != 1 || !samples.Same(got.Items[0], v) || !value.Right(got) {
			t.Fatalf("%q: %v, %d at %d", s, got, err, n)
		}
		checkLines(t, d)
		own := map[int]int{}
		for k, node := range d.Nodes {
			if node.Kind == api.NodeRest && node.Rest.From < node.Rest.To {
				own[node.From]++
			}
			for _, kid := range node.Kids {
				below := d.Nodes[kid]
				if kid <= k || below.From < node.From || below.To > node.To {
					t.Errorf("%q: %+v is not within %+v", s, below, node)
				}
			}
		}
		for i, n := range own {
			if n != 1 {
				t.Errorf("%q: line %d is %d nodes' own", s, i, n)
			}
		}
		var moved, bare []string
		for l := range strings.SplitSeq(s, "\n") {
			moved = append(moved, "   "+l)
			if text := strings.TrimLeft(l, " "); text != "" && text[0] != '#' {
				bare = append(bare, l)
			}
		}
		for _, other := range []string{lines(moved...), lines(bare...)} {
			d, _, err := yaml.Parse(other)
			if w, _ := yaml.Node(d, 0); err != api.OK || !samples.Same(w, got) {
				t.Errorf("%q: %v, %d", other, w, err)
			}
		}
	}
}

func TestOtherDocsEnd(t *testing.T) { // P12.2
	// Each node stands twice beneath the one ahead of it: as a tree, these are too many to be gone through.
	twice := api.Ydoc{}
	for k := range api.MaxDepth {
		twice.Nodes = append(twice.Nodes, api.Ynode{Kind: api.NodeList, Kids: []int{k + 1, k + 1, k + 1, k + 1}})
	}
	twice.Nodes[api.MaxDepth-1] = api.Ynode{Kind: api.NodeRest}
	wild := api.Span{From: -5, To: api.MaxInt}
	for _, d := range []api.Ydoc{
		twice, {Text: "ab", Nodes: []api.Ynode{{Kind: api.NodeRest, Rest: sp(2, 1)}, {Kind: api.NodeRest, Rest: sp(0, 3)}, {Kind: api.NodeRest, Rest: sp(-1, 1)}, {Kind: api.NodeMap, Kids: []int{4}}, {Kind: api.NodeRest, Key: sp(2, 1)}}}, {}, {Nodes: []api.Ynode{{Kind: api.NodeList, Kids: []int{0, -1, 9}}}}, {Nodes: []api.Ynode{{Kind: api.NodeMap, Kids: []int{1}}, {Kind: api.NodeRest, Key: wild, Rest: wild}}},
		{Text: "abc", Lines: []api.Line{{Span: wild}, {Span: wild}}, Nodes: []api.Ynode{{Kind: api.NodeLiteral, From: 0, To: 2, Rest: wild}, {Kind: api.NodeLiteral, From: api.MaxInt, To: api.MinInt}, {Kind: api.NodeLiteral, From: -1, To: 9}, {Kind: api.NodeLiteral, From: api.MinInt, To: api.MaxInt}, {Kind: 77}}},
	} {
		for k := range d.Nodes {
			yaml.Node(d, k)
			yaml.Literal(d, k)
		}
	}
}

func TestNewMemory(t *testing.T) { // P12.3
	s := "a:\n  - 1\n  -\n    - 2\nb: [3, [4]]"
	d, _, _ := yaml.Parse(s)
	v, _ := yaml.Node(d, 0)
	samples.Spoil(v)
	w, _ := yaml.Node(d, 0)
	samples.Spoil(w.Items[0])
	if c, _ := print.Compact(w.Items[1]); c != "[3,[4]]" {
		t.Error("two lists of one answer share memory")
	}
	for k := range d.Nodes {
		_ = append(d.Nodes[k].Kids, -7)
	}
	e, _, _ := yaml.Parse(s)
	for k := range d.Nodes {
		if !equal(d.Nodes[k], e.Nodes[k]) {
			t.Error("two lists of one answer share memory")
		}
		for i := range d.Nodes[k].Kids {
			d.Nodes[k].Kids[i] = -1
		}
	}
	d.Lines[0] = api.Line{}
	e, _, _ = yaml.Parse(s)
	if u, _ := yaml.Node(e, 0); len(u.Items) != 2 {
		t.Error("an answer is no new memory")
	}
}
