package yprint_test

import (
	"strings"
	"testing"

	"scarf/api"
	"scarf/samples"
	"scarf/value"
	"scarf/yprint"
	"scarf/yread"
	"scarf/yscalar"
)

func num(s string) api.Value { return api.Value{Kind: api.KindNumber, Text: s} }

func arr(l ...api.Value) api.Value { return api.Value{Kind: api.KindArray, Items: l} }

// obj is an object of keys and items, one by one.
func obj(l ...any) api.Value {
	v := api.Value{Kind: api.KindObject}
	for i := 0; i < len(l); i += 2 {
		v.Keys = append(v.Keys, l[i].(string))
		v.Items = append(v.Items, l[i+1].(api.Value))
	}
	return v
}

// wrong are trees that are no values.
func wrong() []api.Value {
	return []api.Value{{}, num("10"), value.Of("\xff"), {Kind: api.KindHole, Text: "0"}, arr(api.Value{Kind: api.KindHole, Text: "0"}), obj("a", num("1"), "a", num("1")), {Kind: api.KindNull, Items: []api.Value{num("1")}}, arr(num("1"), api.Value{})}
}

func TestLines(t *testing.T) { // P14.1
	for _, v := range []api.Value{arr(num("1")), obj("a", arr()), arr(arr())} {
		if !yprint.Lines(v) {
			t.Errorf("%v", v)
		}
	}
	for _, v := range append(wrong(), num("1"), arr(), obj(), value.Of("a")) {
		if yprint.Lines(v) {
			t.Errorf("%v", v)
		}
	}
	ask := map[string]func(v api.Value, indent int) (string, api.Errno){
		"Block": yprint.Block, "Item": yprint.Item,
		"Member": func(v api.Value, indent int) (string, api.Errno) { return yprint.Member("a", v, indent) },
	}
	for name, f := range ask {
		for _, v := range wrong() {
			if s, err := f(v, 0); s != "" || err != api.ErrArg {
				t.Errorf("%s of %v: %q, %d", name, v, s, err)
			}
		}
		for _, indent := range []int{-1, 257, api.MinInt, api.MaxInt} {
			if s, err := f(arr(num("1")), indent); s != "" || err != api.ErrArg {
				t.Errorf("%s, indent %d: %q, %d", name, indent, s, err)
			}
		}
		if s, err := f(arr(num("1")), 256); err != api.OK || !strings.HasPrefix(s, strings.Repeat(" ", 256)) {
			t.Errorf("%s, indent 256: %q, %d", name, s, err)
		}
	}
	for _, v := range wrong() {
		if s, err := yprint.Print(v); s != "" || err != api.ErrArg {
			t.Errorf("Print of %v: %q, %d", v, s, err)
		}
	}
}

func TestMemberAndItem(t *testing.T) { // P14.2
	nested := obj("b", arr(num("1"), obj()), "c d", value.Of("x y"))
	for _, c := range []struct {
		key    string
		v      api.Value
		indent int
		want   string
	}{
		{"a", num("1"), 0, "a: 1\n"}, {"a", value.Of("1"), 2, "  a: '1'\n"}, {"a: b", arr(), 1, " 'a: b': []\n"}, {"", obj(), 0, "'': {}\n"}, {"1", num("1e1"), 0, "1: 1e1\n"}, {"\n", value.Of("\n"), 0, "\"\\n\": \"\\n\"\n"},
		{"a", nested, 3, "   a:\n     b:\n       - 1\n       - {}\n     c d: x y\n"}, {"a", arr(arr(arr(num("1")))), 0, "a:\n  -\n    -\n      - 1\n"},
	} {
		if s, err := yprint.Member(c.key, c.v, c.indent); s != c.want || err != api.OK {
			t.Errorf("%q: %q, %d", c.key, s, err)
		}
		k, _ := yscalar.WriteKey(c.key)
		want := strings.Replace(c.want, k+":", "-", 1)
		if s, err := yprint.Item(c.v, c.indent); s != want || err != api.OK {
			t.Errorf("%v: %q, %d, not %q", c.v, s, err, want)
		}
	}
	for _, key := range []string{"\xff", "a\xc3"} {
		if s, err := yprint.Member(key, num("1"), 0); s != "" || err != api.ErrArg {
			t.Errorf("%q: %q, %d", key, s, err)
		}
	}
	if s, err := yprint.Member("a", arr(num("1")), 256); s != strings.Repeat(" ", 256)+"a:\n"+strings.Repeat(" ", 258)+"- 1\n" || err != api.OK {
		t.Errorf("%q, %d", s, err)
	}
}

func TestBlockAndPrint(t *testing.T) { // P14.3
	for _, v := range []api.Value{arr(), obj(), num("1"), value.Of("a")} {
		if s, err := yprint.Block(v, 0); s != "" || err != api.ErrArg {
			t.Errorf("%v: %q, %d", v, s, err)
		}
	}
	v := obj("a", num("1"), "b", arr(value.Of("x"), arr()))
	if s, err := yprint.Block(v, 1); s != " a: 1\n b:\n   - x\n   - []\n" || err != api.OK {
		t.Errorf("%q, %d", s, err)
	}
	for want, w := range map[string]api.Value{
		"a: 1\nb:\n  - x\n  - []\n": v, "'1'\n": value.Of("1"), "[]\n": arr(), "{}\n": obj(), "null\n": {Kind: api.KindNull}, "- 1\n-\n  a: 2\n": arr(num("1"), obj("a", num("2"))), "a b\n": value.Of("a b"),
	} {
		if s, err := yprint.Print(w); s != want || err != api.OK {
			t.Errorf("%q: %q, %d", want, s, err)
		}
	}
}

func TestWhatIsPrinted(t *testing.T) { // P14.4, P14.5, P14.6
	for i, v := range samples.Values(28, 400) {
		in := samples.Roomy(v)
		s, err := yprint.Print(in)
		if w, n, e := yread.Read(s); !samples.Same(w, v) || n != len(s) || e != api.OK || err != api.OK {
			t.Errorf("%q: %v, %d", s, w, e)
		}
		if !strings.HasSuffix(s, "\n") || strings.Contains(s, "\n\n") {
			t.Errorf("%q", s)
		}
		indent := i % 7
		if yprint.Lines(v) {
			b, _ := yprint.Block(in, indent)
			for line := range strings.SplitSeq(strings.TrimSuffix(b, "\n"), "\n") {
				if !strings.HasPrefix(line, strings.Repeat(" ", indent)) {
					t.Errorf("%q has not the indent %d", b, indent)
				}
			}
			if w, _, e := yread.Read(b); !samples.Same(w, v) || e != api.OK {
				t.Errorf("%q: %v, %d", b, w, e)
			}
		}
		m, _ := yprint.Member("k # :", in, indent)
		w, _, e := yread.Read(m)
		if !samples.Same(w, obj("k # :", v)) || e != api.OK {
			t.Errorf("%q: %v, %d", m, w, e)
		}
		m, _ = yprint.Item(in, indent)
		if w, _, e = yread.Read(m); !samples.Same(w, arr(v)) || e != api.OK {
			t.Errorf("%q: %v, %d", m, w, e)
		}
		if !samples.Untouched(in, v) {
			t.Errorf("%v was turned", v)
		}
	}
}
