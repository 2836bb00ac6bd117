package print_test

import (
	"bytes"
	stdjson "encoding/json"
	"strings"
	"testing"

	"scarf/api"
	"scarf/print"
	"scarf/samples"
	"scarf/value"
)

func null() api.Value { return api.Value{Kind: api.KindNull} }

func num(s string) api.Value { return api.Value{Kind: api.KindNumber, Text: s} }

func arr(l ...api.Value) api.Value { return api.Value{Kind: api.KindArray, Items: l} }

// obj is an object of keys and items, one by one.
func obj(l ...any) api.Value {
	v := api.Value{Kind: api.KindObject}
	for i := 0; i < len(l); i += 2 {
		v.Keys = append(v.Keys, l[i].(string))
		v.Items = append(v.Items, l[i+1].(api.Value))
	}
	return v
}

// wrong are trees that are no values.
func wrong() []api.Value {
	deep := null()
	for range api.MaxDepth {
		deep = arr(deep)
	}
	return []api.Value{{}, num("10"), value.Of("\xff"), {Kind: api.KindHole, Text: "0"}, arr(api.Value{Kind: api.KindHole, Text: "0"}), obj("a", null(), "a", null()), obj("\xff", null()), deep, {Kind: 9}}
}

func TestCompact(t *testing.T) { // P8.1
	v := obj("b", arr(num("1"), null()), "a", value.Of("x"))
	for want, w := range map[string]api.Value{
		`{"b":[1,null],"a":"x"}`: v, "null": null(), "true": {Kind: api.KindBool, Text: "true"}, "false": {Kind: api.KindBool, Text: "false"}, "-125e-3": num("-125e-3"), "1e1": num("1e1"),
		`"a\n\"\\/é"`: value.Of("a\n\"\\/é"), "[]": arr(), "{}": obj(), "[[],{}]": arr(arr(), obj()), `{"\"":{"":0}}`: obj(`"`, obj("", num("0"))), "[1,2,3]": arr(num("1"), num("2"), num("3")),
	} {
		if s, err := print.Compact(w); s != want || err != api.OK {
			t.Errorf("%s: %s, %d", want, s, err)
		}
	}
	if s, err := print.Canon(v); s != `{"a":"x","b":[1,null]}` || err != api.OK {
		t.Errorf("Canon: %s, %d", s, err)
	}
	if s, _ := print.Canon(arr(obj("b", obj("d", null(), "c", null()), "B", null(), "a", null()))); s != `[{"B":null,"a":null,"b":{"c":null,"d":null}}]` {
		t.Errorf("Canon: %s", s)
	}
	for _, w := range wrong() {
		a, e := print.Compact(w)
		b, f := print.Canon(w)
		c, g := print.Pretty(w, 0, 0)
		if a != "" || b != "" || c != "" || e != api.ErrArg || f != api.ErrArg || g != api.ErrArg {
			t.Errorf("%.100v: %q %d, %q %d, %q %d", w, a, e, b, f, c, g)
		}
	}
}

func TestPretty(t *testing.T) { // P8.2
	v := obj("a", arr(num("1"), arr()), "b", obj("c", obj()))
	for _, c := range []struct {
		v             api.Value
		indent, level int
		want          string
	}{
		{arr(num("1"), arr()), 2, 0, "[\n  1,\n  []\n]"}, {v, 2, 0, "{\n  \"a\": [\n    1,\n    []\n  ],\n  \"b\": {\n    \"c\": {}\n  }\n}"},
		{v, 0, 0, "{\n\"a\": [\n1,\n[]\n],\n\"b\": {\n\"c\": {}\n}\n}"}, {arr(null()), 3, 2, "[\n         null\n      ]"}, {num("1"), 8, 32, "1"}, {arr(), 2, 3, "[]"}, {obj(), 2, 3, "{}"},
		{arr(obj("x", null())), 1, 1, "[\n  {\n   \"x\": null\n  }\n ]"}, {arr(null()), 8, 32, "[\n" + strings.Repeat(" ", 264) + "null\n" + strings.Repeat(" ", 256) + "]"},
	} {
		if s, err := print.Pretty(c.v, c.indent, c.level); s != c.want || err != api.OK {
			t.Errorf("%d, %d: %q, %d", c.indent, c.level, s, err)
		}
	}
	for _, c := range [][2]int{{-1, 0}, {9, 0}, {2, -1}, {2, api.MaxDepth + 1}, {api.MinInt, 0}, {api.MaxInt, api.MaxInt}, {0, api.MinInt}} {
		if s, err := print.Pretty(null(), c[0], c[1]); s != "" || err != api.ErrArg {
			t.Errorf("%v: %q, %d", c, s, err)
		}
	}
}

func TestCanonTellsTheSame(t *testing.T) { // P8.4
	all := samples.Values(15, 150)
	for _, a := range all {
		x, _ := print.Canon(a)
		p, _ := print.Compact(a)
		for _, b := range all {
			y, _ := print.Canon(b)
			q, _ := print.Compact(b)
			if (x == y) != value.Same(a, b) || (p == q) != samples.Same(a, b) {
				t.Errorf("%s, %s", x, y)
			}
		}
	}
}

func TestPrettyIsCompact(t *testing.T) { // P8.3, P8.5
	for i, v := range samples.Values(16, 200) {
		in := samples.Roomy(v)
		c, err := print.Compact(in)
		if !stdjson.Valid([]byte(c)) || err != api.OK {
			t.Errorf("%s, %d", c, err)
		}
		p, err := print.Pretty(in, i%9, i%33)
		var b bytes.Buffer
		if e := stdjson.Compact(&b, []byte(p)); e != nil || b.String() != c || err != api.OK {
			t.Errorf("%s: %s, %d", p, c, err)
		}
		b.Reset()
		p, _ = print.Pretty(in, 2, 0)
		if stdjson.Indent(&b, []byte(c), "", "  "); b.String() != p {
			t.Errorf("%s is not %s", p, b.String())
		}
		print.Canon(in)
		if !samples.Untouched(in, v) {
			t.Errorf("%s was turned", c)
		}
	}
}
