package diff_test

import (
	"slices"
	"strings"
	"testing"

	"scarf/align"
	"scarf/api"
	"scarf/diff"
	"scarf/patch"
	"scarf/pointer"
	"scarf/read"
	"scarf/samples"
	"scarf/value"
)

// of is the value of a text.
func of(t *testing.T, s string) api.Value {
	t.Helper()
	v, _, err := read.Read(s)
	if err != api.OK {
		t.Fatalf("%s: %d", s, err)
	}
	return v
}

// lines are texts in lines.
func lines(l ...string) string {
	if len(l) == 0 {
		return ""
	}
	return strings.Join(l, "\n") + "\n"
}

// wide is an array of so many items.
func wide(n int) string { return "[" + strings.TrimSuffix(strings.Repeat("0,", n), ",") + "]" }

func TestDiff(t *testing.T) { // P22.1
	for _, c := range []struct{ a, b, want string }{
		{`{"a":1,"b":[1,2]}`, `{"b":[1,3],"c":0}`, lines(`remove "/a"`, `replace "/b/1" 3`, `add "/c" 0`)}, {"1", "[1]", lines(`replace "" [1]`)}, {"1", "1.0", ""}, {`{"a":1,"b":2}`, `{"b":2,"a":1}`, ""}, {"[]", "{}", lines(`replace "" {}`)}, {"null", "1", lines(`replace "" 1`)},
		{`{"z":1,"y":2,"m":[],"a":{"q":1}}`, `{"a":{"r":1},"n":1,"B":2,"m":1}`, lines(`remove "/y"`, `remove "/z"`, `remove "/a/q"`, `add "/a/r" 1`, `replace "/m" 1`, `add "/B" 2`, `add "/n" 1`)},
		{"[1,2,3,4]", "[2,4]", lines(`remove "/2"`, `remove "/0"`)}, {"[2,4]", "[1,2,3,4]", lines(`add "/0" 1`, `add "/2" 3`)}, {"[1,2,3]", "[3,9,8]", lines(`replace "/0" 3`, `replace "/1" 9`, `replace "/2" 8`)}, {`[{"a":1,"b":2},5]`, `[7,{"a":1,"b":3}]`, lines(`replace "/0/b" 3`, `remove "/1"`, `add "/0" 7`)},
		{`{"a/b":{"~":1}}`, `{"a/b":{"~":2}}`, lines(`replace "/a~1b/~0" 2`)}, {wide(64), wide(63), lines(`remove "/63"`)}, {wide(65), wide(64), lines(`replace "" ` + wide(64))}, {"[" + wide(300) + "," + wide(300) + "]", "[1]", lines(`replace "" [1]`)}, {"[]", "[1,2]", lines(`add "/0" 1`, `add "/1" 2`)}, {"[[1],[2]]", "[]", lines(`remove "/1"`, `remove "/0"`)},
	} {
		l, err := diff.Diff(of(t, c.a), of(t, c.b))
		s, e := diff.Report(l)
		if s != c.want || err != api.OK || e != api.OK {
			t.Errorf("%.40s, %.40s: %s, %d", c.a, c.b, s, err)
		}
	}
	for _, v := range []api.Value{{}, {Kind: api.KindHole, Text: "0"}, value.Of("\xff")} {
		l, e := diff.Diff(v, value.Num(1))
		m, f := diff.Diff(value.Num(1), v)
		n, g := diff.Diff(v, v)
		if l != nil || m != nil || n != nil || e != api.ErrArg || f != api.ErrArg || g != api.ErrArg {
			t.Errorf("%v: %v, %v, %v", v, l, m, n)
		}
	}
}

func TestReport(t *testing.T) { // P22.2
	l := []api.Op{
		{Do: "add", Path: []string{"a/b", "\""}, Value: of(t, `{"x":[1]}`)}, {Do: "remove"}, {Do: "replace", Path: []string{"0"}, Value: value.Of("\n")}, {Do: "move", Path: []string{"p"}, From: []string{"f"}}, {Do: "copy", From: []string{"~"}}, {Do: "test", Path: []string{""}, Value: of(t, "null")},
	}
	want := lines(`add "/a~1b/\"" {"x":[1]}`, `remove ""`, `replace "/0" "\n"`, `move "/p" "/f"`, `copy "" "/~0"`, `test "/" null`)
	if s, err := diff.Report(l); s != want || err != api.OK {
		t.Errorf("%s, %d", s, err)
	}
	if p := diff.Paths(l); !slices.Equal(p, []string{"/a~1b/\"", "", "/0", "/p", "", "/"}) {
		t.Errorf("%q", p)
	}
	for _, o := range []api.Op{{}, {Do: "remove", Value: value.Num(1)}, {Do: "add"}, {Do: "remove", Path: []string{"\xff"}}, {Do: "move", From: slices.Repeat([]string{"a"}, 65)}} {
		if s, err := diff.Report(append(l, o)); s != "" || err != api.ErrArg {
			t.Errorf("%v: %q, %d", o, s, err)
		}
	}
	if p := diff.Paths([]api.Op{{Path: []string{"\xff"}}, {Do: "x", Path: []string{"a"}}, {Path: slices.Repeat([]string{"a"}, 65)}}); !slices.Equal(p, []string{"", "/a", ""}) {
		t.Errorf("%q", p)
	}
	if s, err := diff.Report(nil); s != "" || err != api.OK || len(diff.Paths(nil)) != 0 {
		t.Errorf("%q, %d", s, err)
	}
}

// same holds steps against each other.
func same(a, b api.Op) bool {
	return a.Do == b.Do && slices.Equal(a.Path, b.Path) && slices.Equal(a.From, b.From) && samples.Same(a.Value, b.Value)
}

// behind are steps at longer paths.
func behind(l []api.Op, path ...string) []api.Op {
	var all []api.Op
	for _, o := range l {
		all = append(all, api.Op{Do: o.Do, Path: slices.Concat(path, o.Path), Value: o.Value})
	}
	return all
}

func TestLaws(t *testing.T) { // P22.3, P22.4, P22.5, P22.6
	x := samples.New(43)
	all := samples.Values(43, 90)
	for _, a := range all {
		for range 12 {
			b := all[x.Under(len(all))]
			if x.Under(2) == 0 {
				b = x.Turned(x.Turned(a))
			}
			inA, inB := samples.Roomy(a), samples.Roomy(b)
			l, err := diff.Diff(inA, inB)
			w, n, e := patch.Apply(a, l)
			if !value.Same(w, b) || n != len(l) || err != api.OK || e != api.OK || (len(l) == 0) != value.Same(a, b) {
				t.Fatalf("%v, %v: %v makes %v, %d", a, b, l, w, e)
			}
			at := a
			for _, o := range l {
				lead := o.Path
				if o.Do == "add" {
					lead = o.Path[:len(o.Path)-1]
				}
				if _, ok := pointer.Find(at, lead); !ok || o.Do != "add" && o.Do != "remove" && o.Do != "replace" {
					t.Errorf("%v, %v: %v leads nowhere", a, b, o)
				}
				at, _, _ = patch.Apply(at, []api.Op{o})
			}
			in := func(v api.Value) api.Value {
				return api.Value{Kind: api.KindObject, Keys: []string{"k"}, Items: []api.Value{v}}
			}
			if m, err := diff.Diff(in(a), in(b)); !slices.EqualFunc(m, behind(l, "k"), same) || err != api.OK {
				t.Errorf("%v, %v: %v under a member", a, b, m)
			}
			row := func(v api.Value) api.Value { return api.Value{Kind: api.KindArray, Items: []api.Value{v}} }
			pairs, _, _ := align.Rows([]api.Value{a}, []api.Value{b})
			if m, err := diff.Diff(row(a), row(b)); len(pairs) == 1 && !slices.EqualFunc(m, behind(l, "0"), same) || err != api.OK {
				t.Errorf("%v, %v: %v in an array", a, b, m)
			}
			old := slices.Clone(l)
			for i := range l {
				old[i].Path, old[i].Value = slices.Clone(l[i].Path), value.Copy(l[i].Value)
			}
			for i := range l {
				_ = append(l[i].Path, "spoilt")
				_ = append(l[i].Value.Items, api.Value{Text: "spoilt"})
			}
			if !slices.EqualFunc(l, old, same) {
				t.Errorf("two lists of one answer share memory: %v", l)
			}
			for i := range l {
				samples.Spoil(l[i].Value)
				if len(l[i].Path) > 0 {
					l[i].Path[0] = "spoilt"
				}
				if i+1 < len(l) && !same(l[i+1], old[i+1]) {
					t.Errorf("two lists of one answer share memory: %v", l)
				}
			}
			if !samples.Untouched(inA, a) || !samples.Untouched(inB, b) {
				t.Errorf("%v, %v were turned", a, b)
			}
		}
	}
}
