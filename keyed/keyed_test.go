package keyed_test

import (
	"slices"
	"testing"

	"scarf/api"
	"scarf/keyed"
	"scarf/print"
	"scarf/read"
	"scarf/samples"
	"scarf/value"
)

// of is the value of a text.
func of(t *testing.T, s string) api.Value {
	t.Helper()
	v, _, err := read.Read(s)
	if err != api.OK {
		t.Fatalf("%s: %d", s, err)
	}
	return v
}

// good are arrays that are well keyed by id, and their items' ids.
var good = map[string][]string{
	"[]": nil, `[{"id":1},{"id":"a"}]`: {"1", `"a"`}, `[{"x":0,"id":"1"},{"id":1,"y":[]}]`: {`"1"`, "1"}, `[{"id":10}]`: {"1e1"}, `[{"id":"\n/"}]`: {`"\n/"`}, `[{"id":-0.5},{"id":0},{"id":""}]`: {"-5e-1", "0", `""`},
}

// bad are values that are not.
var bad = []string{
	`[{"id":1},{"id":1.0}]`, `[{"id":null}]`, `[{"id":true}]`, `[{"id":[]}]`, `[{"id":{}}]`, `[{"Id":1}]`, `[{}]`, `[1]`, `[[{"id":1}]]`, `{"id":1}`, `"id"`, "null", `[{"id":"a"},{"id":"\u0061"}]`, `[{"id":1},{"id":2},null]`, `[{"id":1},{"id":2},{"id":1}]`, `{}`,
}

func TestIds(t *testing.T) { // P19.1
	for s, want := range good {
		v := of(t, s)
		ids, ok := keyed.Ids(v, "id")
		if !ok || !slices.Equal(ids, want) || !keyed.All("id", v) || !keyed.All("id", v, v, of(t, "[]")) {
			t.Errorf("%s: %q, %v", s, ids, ok)
		}
		for i, id := range want {
			if item, ok := keyed.Item(v, "id", id); !ok || !samples.Same(item, v.Items[i]) {
				t.Errorf("%s, %s: %v", s, id, item)
			}
		}
		for _, id := range []string{"", "7", "a", "id"} {
			if item, ok := keyed.Item(v, "id", id); ok || !samples.Zero(item) {
				t.Errorf("%s, %q: %v", s, id, item)
			}
		}
		if ids, ok := keyed.Ids(v, "none"); ok != (s == "[]") || len(ids) > 0 {
			t.Errorf("%s: %q, %v", s, ids, ok)
		}
	}
	hole := api.Value{Kind: api.KindHole, Text: "0"}
	wrong := []api.Value{{}, {Kind: api.KindArray, Items: []api.Value{{}}}, {Kind: api.KindArray, Items: []api.Value{hole}}, {Kind: api.KindArray, Items: []api.Value{{Kind: api.KindObject, Keys: []string{"id", "x"}, Items: []api.Value{value.Num(1), hole}}}}, {Kind: api.KindArray, Items: []api.Value{{Kind: api.KindObject, Keys: []string{"id"}}}}}
	for _, s := range bad {
		wrong = append(wrong, of(t, s))
	}
	for _, v := range wrong {
		ids, ok := keyed.Ids(v, "id")
		item, is := keyed.Item(v, "id", "1")
		if ok || len(ids) > 0 || is || !samples.Zero(item) || keyed.All("id", v) || keyed.All("id", of(t, "[]"), v) || keyed.All("id", v, of(t, "[]")) {
			t.Errorf("%v: %q, %v", v, ids, item)
		}
	}
	if !keyed.All("id") || !keyed.All("\xff", of(t, "[]")) || keyed.All("\xff", of(t, "[{}]")) {
		t.Error("all of none")
	}
}

func TestUnion(t *testing.T) { // P19.2, P19.5
	for _, c := range []struct {
		rows [][]string
		want []string
	}{
		{nil, nil}, {[][]string{nil, {}}, nil}, {[][]string{{"b", "a"}, {"c", "a"}, {"b", "d"}}, []string{"b", "a", "c", "d"}}, {[][]string{{"a", "a", ""}, {""}}, []string{"a", ""}}, {[][]string{{"\xff"}, {"\xfe", "\xff"}}, []string{"\xff", "\xfe"}},
	} {
		if got := keyed.Union(c.rows...); !slices.Equal(got, c.want) {
			t.Errorf("%q: %q", c.rows, got)
		}
	}
	x := samples.New(38)
	for range 500 {
		var rows [][]string
		var all, want []string
		for range x.Under(4) {
			var row []string
			for range x.Under(5) {
				row = append(row, x.Word())
			}
			rows = append(rows, row)
			all = append(all, row...)
		}
		for _, s := range all {
			if !slices.Contains(want, s) {
				want = append(want, s)
			}
		}
		got := keyed.Union(rows...)
		if !slices.Equal(got, want) {
			t.Errorf("%q: %q", rows, got)
		}
		for i := range got {
			got[i] = "spoilt"
		}
		if !slices.Equal(slices.Concat(rows...), all) {
			t.Error("an answer is no new memory")
		}
	}
}

func TestWellKeyed(t *testing.T) { // P19.3, P19.4
	x := samples.New(39)
	for range 300 {
		v := api.Value{Kind: api.KindArray}
		for i := range x.Under(6) {
			member := value.Num(i)
			if x.Under(2) == 0 {
				member = value.Of(x.Word() + string(rune('0'+i)))
			}
			v.Items = append(v.Items, x.Shuffled(api.Value{Kind: api.KindObject, Keys: []string{"k", "other"}, Items: []api.Value{member, x.Value(2)}}))
		}
		in := samples.Roomy(v)
		ids, ok := keyed.Ids(in, "k")
		if !ok || len(ids) != len(v.Items) {
			t.Fatalf("%v: %q, %v", v, ids, ok)
		}
		for i, id := range ids {
			if slices.Contains(ids[:i], id) {
				t.Errorf("%q", ids)
			}
			item, ok := keyed.Item(in, "k", id)
			member, _ := value.Get(item, "k")
			if c, _ := print.Canon(member); !ok || c != id || !samples.Same(item, v.Items[i]) {
				t.Errorf("%q: %v", id, item)
			}
			samples.Spoil(item)
			without := api.Value{Kind: api.KindArray, Items: slices.Delete(slices.Clone(v.Items), i, i+1)}
			slices.Reverse(without.Items)
			rest, ok := keyed.Ids(without, "k")
			slices.Reverse(rest)
			if !ok || !slices.Equal(rest, slices.Delete(slices.Clone(ids), i, i+1)) {
				t.Errorf("%q without %q: %q", ids, id, rest)
			}
		}
		if !samples.Untouched(in, v) {
			t.Errorf("%v was turned", v)
		}
	}
}
