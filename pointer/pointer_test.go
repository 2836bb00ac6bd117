package pointer_test

import (
	"slices"
	"strconv"
	"strings"
	"testing"

	"scarf/api"
	"scarf/pointer"
	"scarf/samples"
	"scarf/value"
)

func num(n int) api.Value { return value.Num(n) }

func arr(l ...api.Value) api.Value { return api.Value{Kind: api.KindArray, Items: l} }

// obj is an object of keys, and items that count from 0 on.
func obj(keys ...string) api.Value {
	v := api.Value{Kind: api.KindObject, Keys: keys}
	for i := range keys {
		v.Items = append(v.Items, num(i))
	}
	return v
}

func member(key string, item api.Value) api.Value {
	return api.Value{Kind: api.KindObject, Keys: []string{key}, Items: []api.Value{item}}
}

// long is a row of so many steps.
func long(n int) []string { return slices.Repeat([]string{"a"}, n) }

func TestRight(t *testing.T) { // P7.1
	for _, p := range [][]string{nil, {}, {""}, {"a", "~/", "é"}, long(api.MaxPath)} {
		if !pointer.Right(p) {
			t.Errorf("%q", p)
		}
	}
	for _, p := range [][]string{long(api.MaxPath + 1), {"a", "\xff"}, {"\xed\xa0\x80"}} {
		if s, err := pointer.Text(p); pointer.Right(p) || s != "" || err != api.ErrArg {
			t.Errorf("%q: %q, %d", p, s, err)
		}
	}
}

func TestText(t *testing.T) { // P7.1, P7.5
	for want, p := range map[string][]string{
		"": nil, "/": {""}, "//": {"", ""}, "/a~1b/~0/": {"a/b", "~", ""}, "/~01": {"~1"}, "/~00~10": {"~0/0"}, "/é/0": {"é", "0"}, strings.Repeat("/a", api.MaxPath): long(api.MaxPath), "/~0~1~1~0": {"~//~"},
	} {
		s, err := pointer.Text(p)
		if s != want || err != api.OK {
			t.Errorf("%q: %q, %d", p, s, err)
		}
		if back, err := pointer.Parse(want); !slices.Equal(back, p) || err != api.OK {
			t.Errorf("%q: %q, %d", want, back, err)
		}
	}
	for s, want := range map[string]api.Errno{
		"a": api.ErrForm, "/~2": api.ErrForm, "/~": api.ErrForm, "/a~/b": api.ErrForm, "/\xff": api.ErrForm, " /a": api.ErrForm, "/~~0": api.ErrForm, "~0": api.ErrForm, "/~01~": api.ErrForm, "\xff": api.ErrForm,
		strings.Repeat("/a", api.MaxPath+1): api.ErrLong, strings.Repeat("/", api.MaxPath+1): api.ErrLong, strings.Repeat("/a", api.MaxPath+1) + "~": api.ErrForm, strings.Repeat("/a", api.MaxPath+1) + "\xff": api.ErrForm, "a" + strings.Repeat("/", 99): api.ErrForm,
	} {
		if p, err := pointer.Parse(s); p != nil || err != want {
			t.Errorf("%q: %q, %d", s, p, err)
		}
	}
	x := samples.New(13)
	for range 300 {
		var p []string
		for range x.Under(5) {
			p = append(p, x.Word())
		}
		s, _ := pointer.Text(p)
		if back, err := pointer.Parse(s); !slices.Equal(back, p) || err != api.OK {
			t.Errorf("%q: %q, %q", p, s, back)
		}
	}
}

func TestIndex(t *testing.T) { // P7.2
	for s, want := range map[string]int{"0": 0, "1": 1, "10": 10, "999999999": 999999999, "100000000": 100000000} {
		if n, ok := pointer.Index(s); n != want || !ok {
			t.Errorf("%q: %d, %v", s, n, ok)
		}
	}
	for _, s := range []string{"", "00", "01", "-", "-1", "+1", "1.0", "1e1", "1000000000", "0000000001", "a", " 1", "1 ", "١", "0x1", "\xff", "-0", "1_0"} {
		if n, ok := pointer.Index(s); n != 0 || ok {
			t.Errorf("%q: %d, %v", s, n, ok)
		}
	}
}

func TestCompare(t *testing.T) { // P7.2
	rise := [][]string{nil, {""}, {"", "x"}, {"/"}, {"10"}, {"9"}, {"A"}, {"a"}, {"a", ""}, {"a", "b"}, {"a", "b", "a"}, {"a", "c"}, {"aa"}, {"é"}, {"\xff"}}
	for i, a := range rise {
		for j, b := range rise {
			if got := pointer.Compare(a, b); got != max(-1, min(1, i-j)) {
				t.Errorf("%q, %q: %d", a, b, got)
			}
		}
	}
	if pointer.Compare(long(99), long(100)) != -1 || pointer.Compare(nil, []string{}) != 0 {
		t.Error("rows that are no paths")
	}
}

func TestFind(t *testing.T) { // P7.3
	hole := api.Value{Kind: api.KindHole, Text: "0"}
	v := api.Value{Kind: api.KindObject, Keys: []string{"a", "", "0", "~/", "h"}, Items: []api.Value{arr(num(1), arr(num(2)), obj("x")), num(3), num(4), num(5), hole}}
	for _, c := range []struct {
		path []string
		want api.Value
	}{
		{nil, v}, {[]string{"a"}, v.Items[0]}, {[]string{"a", "0"}, num(1)}, {[]string{"a", "1", "0"}, num(2)}, {[]string{"a", "2", "x"}, num(0)}, {[]string{""}, num(3)}, {[]string{"0"}, num(4)}, {[]string{"~/"}, num(5)}, {[]string{"h"}, hole},
	} {
		if w, ok := pointer.Find(v, c.path); !ok || !samples.Same(w, c.want) {
			t.Errorf("%q: %v, %v", c.path, w, ok)
		}
	}
	for _, p := range [][]string{{"b"}, {"a", "01"}, {"a", "3"}, {"a", "-"}, {"a", "-1"}, {"a", "0", "0"}, {"a", ""}, {"h", "0"}, {"a", "2", "0"}, {"\xff"}, long(65), {"a", "1", "1"}, {"", ""}, {"a", "00"}} {
		if w, ok := pointer.Find(v, p); ok || !samples.Zero(w) {
			t.Errorf("%q: %v", p, w)
		}
	}
	for _, w := range []api.Value{{}, obj("a", "a"), arr(api.Value{})} {
		if x, ok := pointer.Find(w, nil); ok || !samples.Zero(x) {
			t.Errorf("%v: %v", w, x)
		}
	}
}

// deep is a tree of a depth around one.
func deep(n int, v api.Value) api.Value {
	for range n {
		v = arr(v)
	}
	return v
}

func TestSet(t *testing.T) { // P7.3
	hole := api.Value{Kind: api.KindHole, Text: "3"}
	v := member("a", arr(num(1), num(2)))
	for _, c := range []struct {
		path []string
		w    api.Value
		want api.Value
		err  api.Errno
	}{
		{nil, num(9), num(9), api.OK}, {[]string{"a"}, hole, member("a", hole), api.OK}, {[]string{"a", "1"}, obj("x"), member("a", arr(num(1), obj("x"))), api.OK},
		{[]string{"b"}, num(1), api.Value{}, api.ErrNone}, {[]string{"a", "2"}, num(1), api.Value{}, api.ErrNone}, {[]string{"a", "-"}, num(1), api.Value{}, api.ErrNone},
		{[]string{"b"}, api.Value{}, api.Value{}, api.ErrArg}, {[]string{"\xff"}, num(1), api.Value{}, api.ErrArg}, {long(65), num(1), api.Value{}, api.ErrArg},
		{[]string{"a", "0"}, deep(30, num(1)), api.Value{}, api.ErrArg}, {[]string{"a", "0"}, deep(29, num(1)), member("a", arr(deep(29, num(1)), num(2))), api.OK}, {[]string{"a", "9"}, deep(31, num(1)), api.Value{}, api.ErrNone},
	} {
		if w, err := pointer.Set(v, c.path, c.w); err != c.err || !samples.Same(w, c.want) {
			t.Errorf("%q: %v, %d", c.path, w, err)
		}
	}
	if w, err := pointer.Set(arr(api.Value{}), nil, num(1)); err != api.ErrArg || !samples.Zero(w) {
		t.Errorf("%v, %d", w, err)
	}
	many := arr()
	for range api.MaxNodes - 1 {
		many.Items = append(many.Items, num(0))
	}
	if _, err := pointer.Set(many, []string{"7"}, arr(num(0))); err != api.ErrArg {
		t.Errorf("too many nodes: %d", err)
	}
	if _, err := pointer.Set(many, []string{"7"}, arr()); err != api.OK {
		t.Errorf("as many nodes as may be: %d", err)
	}
}

// all are the paths of a value's nodes.
func all(v api.Value, at []string) [][]string {
	l := [][]string{at}
	for i, item := range v.Items {
		step := strconv.Itoa(i)
		if v.Kind == api.KindObject {
			step = v.Keys[i]
		}
		l = append(l, all(item, append(slices.Clone(at), step))...)
	}
	return l
}

func TestWhatIsSet(t *testing.T) { // P7.4, P7.6
	for _, v := range samples.Values(14, 60) {
		paths := all(v, nil)
		for _, p := range paths {
			in, put := samples.Roomy(v), samples.Roomy(obj("new"))
			w, err := pointer.Set(in, p, put)
			if err != api.OK {
				t.Fatalf("%v, %q: %d", v, p, err)
			}
			if f, ok := pointer.Find(w, p); !ok || !samples.Same(f, obj("new")) {
				t.Errorf("%v, %q: %v", v, p, f)
			}
			for _, q := range paths {
				n := min(len(p), len(q))
				if slices.Equal(p[:n], q[:n]) {
					continue
				}
				a, _ := pointer.Find(v, q)
				if b, ok := pointer.Find(w, q); !ok || !samples.Same(a, b) {
					t.Errorf("%v, %q: at %q %v", v, p, q, b)
				}
			}
			f, _ := pointer.Find(in, p)
			samples.Spoil(f)
			samples.Spoil(w)
			if !samples.Untouched(in, v) || !samples.Untouched(put, obj("new")) {
				t.Fatalf("%v was turned", v)
			}
		}
	}
}
