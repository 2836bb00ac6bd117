package json_test

import (
	stdjson "encoding/json"
	"math/rand"
	"reflect"
	"strconv"
	"strings"
	"testing"

	"scarf/api"
	"scarf/json"
	"scarf/lex"
)

// sp is a span written short.
func sp(from, to int) api.Span { return api.Span{From: from, To: to} }

// equal holds docs against each other; a nil list and an empty one are the same.
func equal(a, b api.Doc) bool {
	if a.Text != b.Text || len(a.Nodes) != len(b.Nodes) {
		return false
	}
	for i, x := range a.Nodes {
		y := b.Nodes[i]
		if x.Kind != y.Kind || x.Span != y.Span || x.Key != y.Key || len(x.Kids) != len(y.Kids) || len(x.Pieces) != len(y.Pieces) || len(x.Kids) != len(x.Pieces) {
			return false
		}
		for j := range x.Kids {
			if x.Kids[j] != y.Kids[j] || x.Pieces[j] != y.Pieces[j] {
				return false
			}
		}
	}
	return true
}

func TestParse(t *testing.T) { // P5.1
	for s, want := range map[string][]api.Node{
		`[1, {"a":2}]`: {
			{Kind: api.KindArray, Span: sp(0, 12), Kids: []int{1, 2}, Pieces: []api.Span{sp(1, 2), sp(3, 11)}},
			{Kind: api.KindNumber, Span: sp(1, 2)},
			{Kind: api.KindObject, Span: sp(4, 11), Kids: []int{3}, Pieces: []api.Span{sp(5, 10)}},
			{Kind: api.KindNumber, Span: sp(9, 10), Key: sp(5, 8)},
		},
		" null\n": {{Kind: api.KindNull, Span: sp(1, 5)}},
		"true":    {{Kind: api.KindBool, Span: sp(0, 4)}},
		"false":   {{Kind: api.KindBool, Span: sp(0, 5)}},
		`"a"`:     {{Kind: api.KindString, Span: sp(0, 3)}},
		"[ ]":     {{Kind: api.KindArray, Span: sp(0, 3)}},
		"{\t}":    {{Kind: api.KindObject, Span: sp(0, 3)}},
		` { "x" : [ ] , "" : "" } `: {
			{Kind: api.KindObject, Span: sp(1, 24), Kids: []int{1, 2}, Pieces: []api.Span{sp(2, 13), sp(14, 23)}},
			{Kind: api.KindArray, Span: sp(9, 12), Key: sp(3, 6)},
			{Kind: api.KindString, Span: sp(20, 22), Key: sp(15, 17)},
		},
		"[[1],2]": {
			{Kind: api.KindArray, Span: sp(0, 7), Kids: []int{1, 3}, Pieces: []api.Span{sp(1, 4), sp(5, 6)}},
			{Kind: api.KindArray, Span: sp(1, 4), Kids: []int{2}, Pieces: []api.Span{sp(2, 3)}},
			{Kind: api.KindNumber, Span: sp(2, 3)},
			{Kind: api.KindNumber, Span: sp(5, 6)},
		},
	} {
		d, n, err := json.Parse(s)
		if !equal(d, api.Doc{Text: s, Nodes: want}) || n != len(s) || err != api.OK {
			t.Errorf("%q: %v, %d, %d", s, d, n, err)
		}
	}
}

// deep are arrays in one another around a text.
func deep(n int, s string) string { return strings.Repeat("[", n) + s + strings.Repeat("]", n) }

// many is an array of so many nodes in all.
func many(n int) string { return "[0" + strings.Repeat(",0", n-2) + "]" }

func TestParseWrong(t *testing.T) { // P5.1
	for _, c := range []struct {
		s   string
		at  int
		err api.Errno
	}{
		{"", 0, api.ErrForm}, {"  ", 2, api.ErrForm}, {"[1,]", 3, api.ErrForm}, {"[1 2]", 3, api.ErrForm}, {"[,1]", 1, api.ErrForm}, {"[1,,2]", 3, api.ErrForm}, {"[", 1, api.ErrForm}, {"[ ", 2, api.ErrForm},
		{"[1", 2, api.ErrForm}, {"[1 ", 3, api.ErrForm}, {"[1,", 3, api.ErrForm}, {"[1}", 2, api.ErrForm}, {"]", 0, api.ErrForm}, {"1 2", 2, api.ErrForm}, {"1 ]", 2, api.ErrForm}, {"{}{}", 2, api.ErrForm}, {"[]\n,", 3, api.ErrForm},
		{"{1:2}", 1, api.ErrForm}, {`{"a"}`, 4, api.ErrForm}, {`{"a" 1}`, 5, api.ErrForm}, {`{"a":}`, 5, api.ErrForm}, {`{"a":1,}`, 7, api.ErrForm}, {`{,}`, 1, api.ErrForm}, {`{"a":1]`, 6, api.ErrForm},
		{`{"a":1 "b":2}`, 7, api.ErrForm}, {`{"a"`, 4, api.ErrForm}, {`{"a":`, 5, api.ErrForm}, {`{"a":1`, 6, api.ErrForm}, {`{`, 1, api.ErrForm}, {`{]`, 1, api.ErrForm}, {`[}`, 1, api.ErrForm}, {`:`, 0, api.ErrForm}, {`["a":1]`, 4, api.ErrForm},
		{`{"a":1,"\u0061":2}`, 7, api.ErrDouble}, {`{"a":1,"a" 2}`, 7, api.ErrDouble}, {`{"a":1,"b":{"a":1},"a":[}`, 19, api.ErrDouble}, {`{"":1,"":1}`, 6, api.ErrDouble}, {`{"a":1 ,"b",`, 11, api.ErrForm},
		{"[x,]", 1, api.ErrForm}, {"[1,,x]", 4, api.ErrForm}, {"]]1e9999999999", 2, api.ErrNum}, {strings.Repeat(" ", api.MaxText+1), 0, api.ErrLong}, {"[" + strings.Repeat("1", api.MaxDigits+1), 1, api.ErrLong},
		{deep(32, "1"), 32, api.ErrDeep}, {deep(33, ""), 32, api.ErrDeep}, {deep(32, "]"), 64, api.ErrForm}, {deep(32, ","), 32, api.ErrForm}, {deep(31, `{"a":0}`), 36, api.ErrDeep}, {strings.Repeat(`{"a":`, 32) + "0" + strings.Repeat("}", 32), 160, api.ErrDeep}, {deep(32, ":"), 32, api.ErrForm},
		{many(api.MaxNodes + 1), 2*api.MaxNodes - 1, api.ErrMany}, {many(api.MaxNodes+2) + "]", 2*api.MaxNodes - 1, api.ErrMany}, {strings.TrimSuffix(many(api.MaxNodes), "]") + ",]", 2*api.MaxNodes - 1, api.ErrForm},
		{"[" + strings.Repeat("0,", api.MaxNodes-32) + deep(32, "1") + "]", 1 + 2*(api.MaxNodes-32) + 31, api.ErrDeep},
	} {
		if d, at, err := json.Parse(c.s); at != c.at || err != c.err || d.Text != "" || d.Nodes != nil {
			t.Errorf("%.40q: %d, %d, not %d, %d", c.s, at, err, c.at, c.err)
		}
	}
	for _, s := range []string{deep(32, ""), deep(31, "1"), strings.Repeat(`{"a":`, 31) + "{}" + strings.Repeat("}", 31), strings.Repeat(`[{"a":`, 15) + "[0]" + strings.Repeat("}]", 15), many(api.MaxNodes), strings.Repeat(" ", api.MaxText-1) + "1"} {
		if _, n, err := json.Parse(s); n != len(s) || err != api.OK {
			t.Errorf("%.40q: %d, %d", s, n, err)
		}
	}
}

func TestDeepAheadOfMany(t *testing.T) { // P5.1
	// The last of 4096 nodes is of level 32, and the next one is too deep and one too many.
	s := "[" + strings.Repeat("0,", api.MaxNodes-32) + deep(31, "") + "]"
	if _, _, err := json.Parse(s); err != api.OK {
		t.Errorf("at the limits: %d", err)
	}
	s = "[" + strings.Repeat("0,", api.MaxNodes-32) + deep(31, "1") + "]"
	if _, at, err := json.Parse(s); err != api.ErrDeep || at != 1+2*(api.MaxNodes-32)+31 {
		t.Errorf("beyond both: %d, %d", at, err)
	}
}

func TestPath(t *testing.T) { // P5.2
	s := ` [1, {"a":2}] `
	d, _, _ := json.Parse(s)
	for at, want := range map[int][]int{0: nil, 1: {0}, 2: {0, 1}, 3: {0}, 4: {0}, 5: {0, 2}, 6: {0, 2}, 9: {0, 2}, 10: {0, 2, 3}, 11: {0, 2}, 12: {0}, 13: nil, 14: nil, -1: nil, api.MinInt: nil, api.MaxInt: nil} {
		got, ok := json.Path(d, at)
		if len(got) != len(want) || ok != (len(want) > 0) {
			t.Errorf("%d: %v, %v", at, got, ok)
			continue
		}
		for i := range want {
			if got[i] != want[i] {
				t.Errorf("%d: %v, %v", at, got, ok)
			}
		}
	}
	json.Path(api.Doc{Nodes: []api.Node{{Kids: []int{0, 7, -1}, Span: sp(-5, 99)}}}, 1)
}

func TestSlice(t *testing.T) { // P5.3
	d := api.Doc{Text: "abc"}
	for s, want := range map[api.Span]string{
		sp(0, 3): "abc", sp(1, 2): "b", sp(3, 3): "", sp(-1, 2): "", sp(2, 1): "", sp(0, 4): "", sp(api.MinInt, api.MaxInt): "", sp(4, 4): "",
	} {
		if got := json.Slice(d, s); got != want {
			t.Errorf("%v: %q", s, got)
		}
	}
}

// text writes a random text of JSON, with blanks between all.
func text(r *rand.Rand, depth int) string {
	blank := func() string { return []string{"", " ", "\n\t", ""}[r.Intn(4)] }
	if depth == 0 || r.Intn(3) == 0 {
		return []string{"null", "true", "false", "-1.50e1", `"a\u0062]"`, `""`, "[]", "{ }", "0"}[r.Intn(9)]
	}
	var parts []string
	object := r.Intn(2) == 0
	for i := range r.Intn(4) {
		p := blank()
		if object {
			p += strconv.Quote("k"+strconv.Itoa(i)) + blank() + ":" + blank()
		}
		parts = append(parts, p+text(r, depth-1)+blank())
	}
	if object {
		return "{" + strings.Join(parts, ",") + "}"
	}
	return "[" + strings.Join(parts, ",") + "]"
}

func TestNothingLost(t *testing.T) { // P5.5
	r := rand.New(rand.NewSource(5))
	for range 300 {
		s := " " + text(r, 4) + "\n"
		d, n, err := json.Parse(s)
		if err != api.OK || n != len(s) || d.Text != s || !stdjson.Valid([]byte(s)) {
			t.Fatalf("%q: %d at %d", s, err, n)
		}
		for k, x := range d.Nodes {
			if k > 0 && x.Span.From <= d.Nodes[k-1].Span.From {
				t.Errorf("%q: node %d begins ahead of its turn", s, k)
			}
			if x.Kind != api.KindArray && x.Kind != api.KindObject {
				continue
			}
			all := ""
			for i, p := range x.Pieces {
				if i > 0 {
					all += ","
				}
				all += json.Slice(d, p)
				kid := d.Nodes[x.Kids[i]]
				if kid.Span.From < p.From || kid.Span.To > p.To || x.Kind == api.KindObject && (kid.Key.From < p.From || kid.Key.To > kid.Span.From) || x.Kind == api.KindArray && kid.Key != (api.Span{}) {
					t.Errorf("%q: kid %d of node %d does not lie in its piece", s, i, k)
				}
			}
			if len(x.Kids) == 0 {
				all = json.Slice(d, sp(x.Span.From+1, x.Span.To-1))
			}
			if x.Kind == api.KindArray {
				all = "[" + all + "]"
			} else {
				all = "{" + all + "}"
			}
			if all != json.Slice(d, x.Span) {
				t.Errorf("%q: %q is not %q", s, all, json.Slice(d, x.Span))
			}
		}
	}
}

// moved are a node's, and those beneath it, as a text alone has them.
func moved(d api.Doc, k int) []api.Node {
	at := d.Nodes[k].Span.From
	var all []api.Node
	for j := k; j < len(d.Nodes) && d.Nodes[j].Span.From < d.Nodes[k].Span.To; j++ {
		x := d.Nodes[j]
		n := api.Node{Kind: x.Kind, Span: sp(x.Span.From-at, x.Span.To-at)}
		if j > k && x.Key != (api.Span{}) {
			n.Key = sp(x.Key.From-at, x.Key.To-at)
		}
		for i := range x.Kids {
			n.Kids = append(n.Kids, x.Kids[i]-k)
			n.Pieces = append(n.Pieces, sp(x.Pieces[i].From-at, x.Pieces[i].To-at))
		}
		all = append(all, n)
	}
	return all
}

func TestNodesAlone(t *testing.T) { // P5.6
	r := rand.New(rand.NewSource(6))
	for range 200 {
		s := text(r, 4)
		d, _, _ := json.Parse(s)
		for k, x := range d.Nodes {
			one := json.Slice(d, x.Span)
			got, _, err := json.Parse(one)
			if err != api.OK || !equal(got, api.Doc{Text: one, Nodes: moved(d, k)}) {
				t.Errorf("%q: node %d alone is %v", s, k, got)
			}
		}
	}
}

func TestNewMemory(t *testing.T) { // P5.4
	s := `[1,[2,{"a":3}]]`
	a, _, _ := json.Parse(s)
	for i := range a.Nodes {
		for j := range a.Nodes[i].Kids {
			a.Nodes[i].Kids[j], a.Nodes[i].Pieces[j] = -1, sp(-1, -1)
		}
		a.Nodes[i].Kids = append(a.Nodes[i].Kids, -7)
		a.Nodes[i].Pieces = append(a.Nodes[i].Pieces, sp(-7, -7))
	}
	b, _, _ := json.Parse(s)
	c, _, _ := json.Parse(s)
	if !reflect.DeepEqual(b, c) || b.Nodes[0].Kids[0] != 1 {
		t.Error("an answer is no new memory")
	}
	if l, _, _ := lex.Tokens(s); len(l) != 13 {
		t.Errorf("%d tokens", len(l))
	}
}
