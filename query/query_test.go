package query_test

import (
	"slices"
	"strconv"
	"strings"
	"testing"

	"scarf/api"
	"scarf/pointer"
	"scarf/query"
	"scarf/read"
	"scarf/samples"
	"scarf/value"
)

// of is the value of a text.
func of(t *testing.T, s string) api.Value {
	t.Helper()
	v, _, err := read.Read(s)
	if err != api.OK {
		t.Fatalf("%s: %d", s, err)
	}
	return v
}

// same holds looks against each other.
func same(a, b api.Look) bool {
	return a.Do == b.Do && a.Name == b.Name && a.N == b.N && a.From == b.From && a.To == b.To && slices.Equal(a.Path, b.Path) && a.Test == b.Test && samples.Same(a.Value, b.Value)
}

// texts are paths as texts, one behind another.
func texts(paths [][]string) string {
	var all []string
	for _, p := range paths {
		s, _ := pointer.Text(p)
		all = append(all, s)
	}
	return strings.Join(all, " ")
}

func key(s string) api.Look { return api.Look{Do: api.LookKey, Name: s} }

func index(n int) api.Look { return api.Look{Do: api.LookIndex, N: n} }

func slice(from, to int) api.Look { return api.Look{Do: api.LookSlice, From: from, To: to} }

func where(test int, v api.Value, path ...string) api.Look {
	return api.Look{Do: api.LookWhere, Path: path, Test: test, Value: v}
}

var all, deep = api.Look{Do: api.LookAll}, api.Look{Do: api.LookDeep}

// null is the value.
func null() api.Value { return api.Value{Kind: api.KindNull} }

func num(s string) api.Value { return api.Value{Kind: api.KindNumber, Text: s} }

// right are looks and their texts.
func right() map[string]api.Look {
	return map[string]api.Look{
		`["a"]`: key("a"), `[""]`: key(""), `["]\"\n"]`: key("]\"\n"), "[0]": index(0), "[-1]": index(-1), "[4096]": index(4096), "[-4096]": index(-4096), "[10]": index(10), "[*]": all, "[**]": deep, "[0:0]": slice(0, 0), "[1:4096]": slice(1, 4096), "[4096:4096]": slice(4096, 4096),
		`[?""]`: where(api.TestHas, api.Value{}), `[?"/a~1b/~0"]`: where(api.TestHas, api.Value{}, "a/b", "~"), `[?"/a"=1]`: where(api.TestSame, num("1"), "a"), `[?"/a"!null]`: where(api.TestOther, null(), "a"), `[?""<"x]\"="]`: where(api.TestLess, value.Of("x]\"=")), `[?"/]">-15e-1]`: where(api.TestMore, num("-15e-1"), "]"), `[?""=true]`: where(api.TestSame, api.Value{Kind: api.KindBool, Text: "true"}), `[?""=false]`: where(api.TestSame, api.Value{Kind: api.KindBool, Text: "false"}), `[?""="null"]`: where(api.TestSame, value.Of("null")), `["*"]`: key("*"), `["?"]`: key("?"), `[?""=1e1]`: where(api.TestSame, num("1e1")),
	}
}

// wrong are looks that are not right.
func wrong() []api.Look {
	one := num("1")
	l := []api.Look{{}, {Do: 7}, {Do: -1}, key("\xff"), index(4097), index(-4097), index(api.MinInt), index(api.MaxInt), slice(2, 1), slice(-1, 1), slice(0, 4097), slice(4097, 4097), slice(api.MinInt, api.MaxInt), where(0, one), where(6, one), where(api.TestHas, one), where(api.TestHas, api.Value{Text: "x"}), where(api.TestSame, api.Value{}), where(api.TestSame, api.Value{Kind: api.KindArray}), where(api.TestLess, api.Value{Kind: api.KindObject}), where(api.TestMore, num("10")), where(api.TestOther, api.Value{Kind: api.KindHole, Text: "0"}), where(api.TestSame, one, "\xff"), where(api.TestSame, one, slices.Repeat([]string{"a"}, 65)...), where(api.TestSame, value.Of("\xff")), where(api.TestSame, api.Value{Kind: api.KindNull, Items: []api.Value{one}})}
	for text, k := range right() {
		for i := range 7 {
			bad := k
			switch i {
			case 0:
				bad.Name = "x"
			case 1:
				bad.N = 1
			case 2:
				bad.From = 1
			case 3:
				bad.To = 1
			case 4:
				bad.Path = []string{"x"}
			case 5:
				bad.Test = api.TestHas
			case 6:
				bad.Value = one
			}
			named := map[int]int{0: api.LookKey, 1: api.LookIndex, 2: api.LookSlice, 3: api.LookSlice, 4: api.LookWhere, 5: api.LookWhere, 6: api.LookWhere}[i]
			if k.Do != named && text != "" {
				l = append(l, bad)
			}
		}
	}
	return l
}

func TestRightAndPrint(t *testing.T) { // P29.1
	for text, k := range right() {
		if !query.Right([]api.Look{k}) {
			t.Errorf("%s: %v", text, k)
		}
		if s, err := query.Print([]api.Look{k, all}); s != "$"+text+"[*]" || err != api.OK {
			t.Errorf("%s: %s, %d", text, s, err)
		}
		l, n, err := query.Parse("$" + text + text)
		if len(l) != 2 || !same(l[0], k) || !same(l[1], k) || n != 1+2*len(text) || err != api.OK {
			t.Errorf("%s: %v, %d, %d", text, l, n, err)
		}
	}
	for _, k := range wrong() {
		if s, err := query.Print([]api.Look{all, k}); query.Right([]api.Look{all, k}) || s != "" || err != api.ErrArg {
			t.Errorf("%v: %s, %d", k, s, err)
		}
	}
	if s, err := query.Print(nil); s != "$" || err != api.OK || !query.Right(nil) {
		t.Errorf("%s, %d", s, err)
	}
	most := slices.Repeat([]api.Look{all}, api.MaxLooks)
	if _, err := query.Print(most); !query.Right(most) || err != api.OK {
		t.Errorf("as many looks as may be: %d", err)
	}
	if _, err := query.Print(append(most, all)); query.Right(append(most, all)) || err != api.ErrArg {
		t.Errorf("too many looks: %d", err)
	}
	long := strings.Repeat("é\n", api.MaxText)
	s, _ := query.Print([]api.Look{key(long), where(api.TestSame, value.Of(long))})
	if l, n, err := query.Parse(s); len(l) != 2 || l[0].Name != long || l[1].Value.Text != long || n != len(s) || err != api.OK {
		t.Errorf("long texts: %d, %d", n, err)
	}
}

func TestParseWrong(t *testing.T) { // P29.1
	for s, at := range map[string]int{
		"": 0, "a": 0, "[*]": 0, " $": 0, "\xff": 0, "$$": 1, "$ ": 1, "$[*] ": 4, "$[*]x": 4, "$*": 1, "$[": 1, "$[]": 1, "$[*": 1, "$[* ]": 1, "$[***]": 1, "$[ 1]": 1, "$[01]": 1, "$[+1]": 1, "$[-0]": 1, "$[1e1]": 1, "$[4097]": 1, "$[-4097]": 1, "$[99999999999999999999]": 1, "$[a]": 1, "$['a']": 1, `$["a"`: 1, `$["a]`: 1, `$["\u0061"]`: 1, `$["a" ]`: 1, "$[\"\xff\"]": 1, `$["a"]["b`: 6,
		"$[1:]": 1, "$[:1]": 1, "$[2:1]": 1, "$[-1:1]": 1, "$[0:4097]": 1, "$[1:2:3]": 1, "$[0:01]": 1, "$[0 :1]": 1, "$[:]": 1, `$[?]`: 1, `$[?"a"]`: 1, `$[?"/~2"]`: 1, `$[?"/a"=]`: 1, `$[?"/a"==1]`: 1, `$[?"/a"=10]`: 1, `$[?"/a"=1.0]`: 1, `$[?"/a"=[]]`: 1, `$[?"/a"={}]`: 1, `$[?"/a"~1]`: 1, `$[?"/a" =1]`: 1, `$[?"/a"= 1]`: 1, `$[?"/a"="\u0061"]`: 1, `$[?"/a"=nul]`: 1, `$[?/a=1]`: 1, `$[?"/a"=1`: 1, `$[?"/a`: 1, `$[?"/\u0061"]`: 1, `$[?"/a"="x]`: 1, `$[?"/a"1]`: 1, "$[?\"" + strings.Repeat("/a", 65) + "\"]": 1, `$[*][0][`: 7, "$[*]\n": 4, "$[True]": 1, "$[1][*]]": 7,
		"$" + strings.Repeat("[*]", api.MaxLooks) + "x": 97, "$" + strings.Repeat("[*]", api.MaxLooks) + "[01]": 97, "$" + strings.Repeat("[*]", api.MaxLooks-1) + "[01]": 94,
	} {
		if l, n, err := query.Parse(s); l != nil || n != at || err != api.ErrForm {
			t.Errorf("%q: %v, %d, %d, not %d", s, l, n, err, at)
		}
	}
	for _, rest := range []string{"[*]", "[1]x", `["a"][`} {
		if l, n, err := query.Parse("$" + strings.Repeat("[*]", api.MaxLooks) + rest); l != nil || n != 97 || err != api.ErrMany {
			t.Errorf("%q: %v, %d, %d", rest, l, n, err)
		}
	}
	if l, n, err := query.Parse("$" + strings.Repeat("[*]", api.MaxLooks)); len(l) != api.MaxLooks || n != 97 || err != api.OK {
		t.Errorf("as many looks as may be: %d, %d", n, err)
	}
	if l, n, err := query.Parse("$"); len(l) != 0 || n != 1 || err != api.OK {
		t.Errorf("%v, %d, %d", l, n, err)
	}
}

func TestEval(t *testing.T) { // P29.2
	v := `{"a":[{"id":1},{"id":2}],"b":0}`
	row := `[10,"x",[1,2],{"k":5},null,9,"a",true]`
	for _, c := range []struct{ v, q, want string }{
		{v, "$", ""}, {v, `$["a"][*]["id"]`, "/a/0/id /a/1/id"}, {v, `$["a"][?"/id">1]`, "/a/1"}, {v, "$[**]", " /a /a/0 /a/0/id /a/1 /a/1/id /b"}, {v, `$["a"][-1]`, "/a/1"}, {v, "$[*]", "/a /b"}, {v, `$["c"]`, "none"}, {v, "$[0]", "none"}, {v, `$["b"][*]`, "none"}, {v, `$["a"]["id"]`, "none"}, {v, `$["a"]["0"]`, "none"}, {v, "$[**][*]", "/a /b /a/0 /a/1 /a/0/id /a/1/id"}, {v, "$[*][**]", "/a /a/0 /a/0/id /a/1 /a/1/id /b"}, {v, "$[**][**]", " /a /a/0 /a/0/id /a/1 /a/1/id /b"}, {v, `$[**]["id"]`, "/a/0/id /a/1/id"}, {v, "$[0:1]", "none"},
		{row, "$[0]", "/0"}, {row, "$[7]", "/7"}, {row, "$[8]", "none"}, {row, "$[-8]", "/0"}, {row, "$[-9]", "none"}, {row, "$[1:3]", "/1 /2"}, {row, "$[6:4096]", "/6 /7"}, {row, "$[8:9]", "none"}, {row, "$[3:3]", "none"}, {row, "$[0:0]", "none"}, {row, "$[2:3][0:1]", "/2/0"}, {`{"0":1}`, "$[0]", "none"}, {`{"0":1}`, `$["0"]`, "/0"}, {"[1]", `$["0"]`, "none"}, {"1", "$[*]", "none"}, {"1", "$[**]", ""}, {`"x"`, "$[-1]", "none"},
		{row, `$[?""]`, "/0 /1 /2 /3 /4 /5 /6 /7"}, {row, `$[?"/0"]`, "/2"}, {row, `$[?"/k"]`, "/3"}, {row, `$[?""=1e1]`, "/0"}, {row, `$[?""!1e1]`, "/1 /2 /3 /4 /5 /6 /7"}, {row, `$[?""<1e1]`, "/5"}, {row, `$[?"">9]`, "/0"}, {row, `$[?""<"x"]`, "/6"}, {row, `$[?"">"a"]`, "/1"}, {row, `$[?""=null]`, "/4"}, {row, `$[?""<true]`, "none"}, {row, `$[?"">null]`, "none"}, {row, `$[?""<"a"]`, "none"}, {row, `$[?"/k"=5]`, "/3"}, {row, `$[?"/k"!5]`, "none"}, {row, `$[?"/1"!1]`, "/2"}, {row, `$[?"/9"!1]`, "none"}, {row, `$[?"">false]`, "none"}, {`{"x":1,"y":2,"z":"1"}`, `$[?""<3]`, "/x /y"}, {`{"x":{"p":1},"y":{"p":2}}`, `$[?"/p">1]`, "/y"}, {"7", `$[?""]`, "none"}, {"[[1],[[2]]]", `$[**][?""]`, "/0 /1 /0/0 /1/0 /1/0/0"}, {row, `$[?"/01"]`, "none"},
	} {
		l, _, err := query.Parse(c.q)
		if err != api.OK {
			t.Fatalf("%s: %d", c.q, err)
		}
		paths, err := query.Eval(of(t, c.v), l)
		got := texts(paths)
		if len(paths) == 0 {
			got = "none"
		}
		if got != c.want || err != api.OK {
			t.Errorf("%s of %s: %s, %d, not %s", c.q, c.v, got, err, c.want)
		}
	}
	for _, v := range []api.Value{{}, {Kind: api.KindHole, Text: "0"}, value.Of("\xff")} {
		if p, err := query.Eval(v, nil); p != nil || err != api.ErrArg {
			t.Errorf("%v: %v, %d", v, p, err)
		}
	}
	for _, k := range wrong() {
		if p, err := query.Eval(null(), []api.Look{k}); p != nil || err != api.ErrArg {
			t.Errorf("%v: %v, %d", k, p, err)
		}
	}
}

func TestValues(t *testing.T) { // P29.3
	v := of(t, `{"a":[1,[2]],"":null}`)
	got := query.Values(v, [][]string{{"a", "1"}, {"b"}, nil, {"a", "1"}, {""}, {"a", "01"}, {"\xff"}, slices.Repeat([]string{"a"}, 99), {"a", "1", "0"}, {"a", "0", "0"}})
	want := []api.Value{of(t, "[2]"), v, of(t, "[2]"), null(), num("2")}
	if !slices.EqualFunc(got, want, samples.Same) {
		t.Errorf("%v", got)
	}
	_ = append(got[0].Items, num("7"))
	samples.Spoil(got[0])
	if !samples.Same(got[2], of(t, "[2]")) || !samples.Same(got[1], v) {
		t.Errorf("two lists of one answer share memory: %v", got)
	}
	if got := query.Values(api.Value{}, [][]string{nil}); got != nil {
		t.Errorf("%v", got)
	}
	hole := api.Value{Kind: api.KindHole, Text: "0"}
	if got := query.Values(api.Value{Kind: api.KindArray, Items: []api.Value{hole}}, [][]string{{"0"}}); len(got) != 1 || !samples.Same(got[0], hole) {
		t.Errorf("%v", got)
	}
}

// beneath are the paths of a node and of all beneath it.
func beneath(v api.Value, at []string) [][]string {
	l := [][]string{at}
	for _, p := range kids(v, at) {
		w, _ := pointer.Find(v, p[len(at):])
		l = append(l, beneath(w, p)...)
	}
	return l
}

// kids are the paths of those right beneath a node.
func kids(v api.Value, at []string) [][]string {
	var l [][]string
	for i := range v.Items {
		step := strconv.Itoa(i)
		if v.Kind == api.KindObject {
			step = v.Keys[i]
		}
		l = append(l, append(slices.Clone(at), step))
	}
	return l
}

// told is what a look tells of a node, as the document says.
func told(v api.Value, at []string, k api.Look) [][]string {
	w, _ := pointer.Find(v, at)
	below := kids(w, at)
	isArray := w.Kind == api.KindArray
	var got [][]string
	for i, p := range below {
		item, _ := pointer.Find(v, p)
		x, ok := pointer.Find(item, k.Path)
		ordered := x.Kind == k.Value.Kind && (x.Kind == api.KindNumber || x.Kind == api.KindString)
		is := false
		switch k.Do {
		case api.LookKey:
			is = !isArray && w.Keys[i] == k.Name
		case api.LookIndex:
			is = isArray && (i == k.N || i-len(below) == k.N)
		case api.LookAll:
			is = true
		case api.LookSlice:
			is = isArray && k.From <= i && i < k.To
		case api.LookWhere:
			is = ok && (k.Test == api.TestHas || k.Test == api.TestSame && value.Same(x, k.Value) || k.Test == api.TestOther && !value.Same(x, k.Value) || ordered && k.Test == api.TestLess && value.Compare(x, k.Value) < 0 || ordered && k.Test == api.TestMore && value.Compare(x, k.Value) > 0)
		}
		if is {
			got = append(got, p)
		}
	}
	if k.Do == api.LookDeep {
		return beneath(w, at)
	}
	return got
}

// random is a right look.
func random(x *samples.Source) api.Look {
	switch x.Under(6) {
	case 0:
		return key(x.Word())
	case 1:
		return index(x.Under(7) - 3)
	case 2:
		return all
	case 3:
		return deep
	case 4:
		from := x.Under(4)
		return slice(from, from+x.Under(3))
	}
	k := where(1+x.Under(5), x.Leaf())
	for range x.Under(3) {
		k.Path = append(k.Path, []string{"0", "1", x.Word()}[x.Under(3)])
	}
	if k.Test == api.TestHas {
		k.Value = api.Value{}
	} else if k.Value.Kind == api.KindArray || k.Value.Kind == api.KindObject {
		k.Value = num("1")
	}
	return k
}

func TestLaws(t *testing.T) { // P29.4, P29.5, P29.6, P29.7
	x := samples.New(65)
	found := 0
	for _, v := range samples.Values(65, 400) {
		var l []api.Look
		for range x.Under(5) {
			l = append(l, random(x))
		}
		s, err := query.Print(l)
		back, n, e := query.Parse(s)
		if !slices.EqualFunc(back, l, same) || n != len(s) || err != api.OK || e != api.OK {
			t.Fatalf("%v: %s, %v", l, s, back)
		}
		in := samples.Roomy(v)
		paths, err := query.Eval(in, l)
		want := [][]string{nil}
		for _, k := range l {
			var next [][]string
			for _, p := range want {
				for _, q := range told(v, p, k) {
					if !slices.ContainsFunc(next, func(r []string) bool { return slices.Equal(q, r) }) {
						next = append(next, q)
					}
				}
			}
			want = next
		}
		if !slices.EqualFunc(paths, want, slices.Equal[[]string]) || err != api.OK {
			t.Errorf("%s of %v: %q, not %q", s, v, paths, want)
		}
		found += len(paths)
		values := query.Values(in, paths)
		for i, p := range paths {
			w, ok := pointer.Find(v, p)
			if !ok || !samples.Same(w, values[i]) {
				t.Errorf("%s of %v: %q leads to %v, %v", s, v, p, w, ok)
			}
		}
		cut := x.Under(len(l) + 1)
		first, _ := query.Eval(v, l[:cut])
		var parts [][]string
		for _, p := range first {
			w, _ := pointer.Find(v, p)
			second, _ := query.Eval(w, l[cut:])
			for _, q := range second {
				all := slices.Concat(p, q)
				if !slices.ContainsFunc(parts, func(r []string) bool { return slices.Equal(all, r) }) {
					parts = append(parts, all)
				}
			}
		}
		if whole := texts(paths); len(parts) != len(paths) || !slices.Equal(slices.Sorted(strings.SplitSeq(whole, " ")), slices.Sorted(strings.SplitSeq(texts(parts), " "))) {
			t.Errorf("%s of %v: %s, in two parts %s", s, v, whole, texts(parts))
		}
		for i := range values {
			samples.Spoil(values[i])
		}
		for i := range paths {
			_ = append(paths[i], "spoilt")
			if i+1 < len(paths) && !slices.Equal(paths[i+1], want[i+1]) {
				t.Errorf("two lists of one answer share memory: %q", paths)
			}
			for j := range paths[i] {
				paths[i][j] = "spoilt"
			}
		}
		for i := range back {
			samples.Spoil(back[i].Value)
			for j := range back[i].Path {
				back[i].Path[j] = "spoilt"
			}
		}
		again, _, _ := query.Parse(s)
		if !samples.Untouched(in, v) || !slices.EqualFunc(again, l, same) {
			t.Errorf("%s, %v were turned", s, v)
		}
	}
	if found < 200 {
		t.Errorf("only %d paths", found)
	}
}
