package schema_test

import (
	"slices"
	"strconv"
	"strings"
	"testing"

	"scarf/api"
	"scarf/pointer"
	"scarf/read"
	"scarf/samples"
	"scarf/schema"
	"scarf/value"
)

// of is the value of a text.
func of(t *testing.T, s string) api.Value {
	t.Helper()
	v, _, err := read.Read(s)
	if err != api.OK {
		t.Fatalf("%s: %d", s, err)
	}
	return v
}

// told are flaws as a text.
func told(l []api.Flaw) string {
	var all []string
	for _, f := range l {
		p, _ := pointer.Text(f.Path)
		all = append(all, f.Word+p)
	}
	return strings.Join(all, " ")
}

func TestRight(t *testing.T) { // P30.1
	for _, s := range []string{
		"{}", `{"type":"null"}`, `{"type":"bool"}`, `{"type":"number"}`, `{"type":"string"}`, `{"type":"array"}`, `{"type":"object"}`, `{"enum":[]}`, `{"enum":[1,"x",[],{"a":null}]}`, `{"least":-1.5,"most":1e1000000}`, `{"short":0,"long":9223372036854775807}`, `{"short":1.0}`, `{"need":[]}`, `{"need":["a","a",""]}`, `{"closed":true}`, `{"closed":false}`, `{"items":{}}`, `{"members":{}}`, `{"members":{"a":{"type":"null"},"type":{}}}`, `{"all":[]}`, `{"all":[{},{"not":{}}]}`, `{"any":[{"any":[]}]}`, `{"not":{"not":{"type":"null"}}}`,
	} {
		if !schema.Right(of(t, s)) {
			t.Errorf("%s", s)
		}
	}
	wrong := []api.Value{{}, {Kind: api.KindHole, Text: "0"}, {Kind: api.KindObject, Keys: []string{"enum"}, Items: []api.Value{{Kind: api.KindArray, Items: []api.Value{{}}}}}, {Kind: api.KindObject, Keys: []string{"closed", "closed"}, Items: []api.Value{of(t, "true"), of(t, "true")}}}
	for _, s := range []string{
		"null", "[]", `"type"`, "1", "true", `{"x":1}`, `{"Type":"null"}`, `{"":{}}`, `{"type":"Null"}`, `{"type":"hole"}`, `{"type":""}`, `{"type":null}`, `{"type":["null"]}`, `{"enum":{}}`, `{"enum":1}`, `{"least":"1"}`, `{"most":null}`, `{"least":[]}`, `{"short":-1}`, `{"short":1.5}`, `{"short":"1"}`, `{"long":-1}`, `{"long":9223372036854775808}`, `{"long":1e-1}`, `{"need":"a"}`, `{"need":[1]}`, `{"need":["a",null]}`, `{"need":{}}`, `{"closed":1}`, `{"closed":"true"}`, `{"items":[]}`, `{"items":{"x":1}}`, `{"items":true}`, `{"members":[]}`, `{"members":{"a":1}}`, `{"members":{"a":{},"b":{"x":1}}}`, `{"all":{}}`, `{"all":[1]}`, `{"all":[{},{"x":1}]}`, `{"any":{}}`, `{"any":[[]]}`, `{"not":[]}`, `{"not":{"x":1}}`, `{"not":null}`, `{"type":"null","x":0}`,
	} {
		wrong = append(wrong, of(t, s))
	}
	for _, s := range wrong {
		l, err := schema.Check(s, of(t, "1"))
		if schema.Right(s) || len(schema.Words(s)) != 0 || l != nil || err != api.ErrArg || schema.Fits(s, of(t, "1")) {
			t.Errorf("%v: %v, %d", s, l, err)
		}
	}
}

func TestWords(t *testing.T) { // P30.1
	s := of(t, `{"not":{},"any":[],"all":[],"members":{"type":{}},"items":{"least":1},"closed":true,"need":[],"long":1,"short":0,"most":1,"least":0,"enum":[],"type":"null"}`)
	if l := schema.Words(s); !slices.Equal(l, []string{"type", "enum", "least", "most", "short", "long", "need", "closed", "items", "members", "all", "any", "not"}) {
		t.Errorf("%q", l)
	}
	if l := schema.Words(of(t, `{"long":1,"enum":[]}`)); !slices.Equal(l, []string{"enum", "long"}) {
		t.Errorf("%q", l)
	}
	if l := schema.Words(of(t, "{}")); len(l) != 0 {
		t.Errorf("%q", l)
	}
}

func TestCheck(t *testing.T) { // P30.2
	for _, c := range []struct{ s, v, want string }{
		{`{"type":"object","need":["a"],"members":{"b":{"least":3}}}`, `{"b":1}`, "need/a least/b"}, {`{"any":[{"type":"null"},{"enum":[1]}]}`, "1.0", ""}, {`{"closed":true}`, `{"x":0}`, "closed/x"}, {"{}", "1", ""},
		{`{"type":"null"}`, "null", ""}, {`{"type":"null"}`, "0", "type"}, {`{"type":"bool"}`, "false", ""}, {`{"type":"number"}`, "0", ""}, {`{"type":"string"}`, `""`, ""}, {`{"type":"array"}`, "[]", ""}, {`{"type":"object"}`, "{}", ""}, {`{"type":"object"}`, "[]", "type"}, {`{"type":"bool"}`, `"true"`, "type"},
		{`{"enum":[1,{"a":1,"b":2}]}`, `{"b":2,"a":1.0}`, ""}, {`{"enum":[1,2]}`, `"1"`, "enum"}, {`{"enum":[]}`, "null", "enum"}, {`{"enum":[[1,2]]}`, "[2,1]", "enum"},
		{`{"least":3}`, "3", ""}, {`{"least":3}`, "2.9", "least"}, {`{"least":3}`, "3.1", ""}, {`{"least":3}`, `"a"`, ""}, {`{"most":3}`, "3", ""}, {`{"most":3}`, "3.1", "most"}, {`{"most":3}`, "-4", ""}, {`{"most":3}`, "[9]", ""}, {`{"least":3,"most":2}`, "2.5", "least most"}, {`{"least":9}`, "10", ""}, {`{"most":-1}`, "-1e1000000", ""},
		{`{"short":2}`, `"é"`, "short"}, {`{"short":2}`, `"éa"`, ""}, {`{"short":2}`, "[1]", "short"}, {`{"short":2}`, "[1,2]", ""}, {`{"short":2}`, `{"a":1}`, "short"}, {`{"short":2}`, `{"a":1,"b":2}`, ""}, {`{"short":2}`, "1", ""}, {`{"short":2}`, "null", ""}, {`{"short":2}`, "true", ""}, {`{"long":1}`, `"é"`, ""}, {`{"long":1}`, `"éa"`, "long"}, {`{"long":1}`, "[1,[2,3]]", "long"}, {`{"long":1}`, `{"a":[1,2]}`, ""}, {`{"long":1}`, "123", ""}, {`{"long":0}`, "[]", ""}, {`{"short":0}`, `""`, ""}, {`{"long":1}`, `"\ud83d\ude00"`, ""}, {`{"short":9223372036854775807}`, `"a"`, "short"},
		{`{"need":["b","a"]}`, `{"a":null}`, "need/b"}, {`{"need":["b","a/","b"]}`, "{}", "need/b need/a~1 need/b"}, {`{"need":["b"]}`, "[]", ""}, {`{"need":["b"]}`, `"b"`, ""}, {`{"need":[]}`, "{}", ""},
		{`{"closed":false}`, `{"x":0}`, ""}, {`{"closed":true,"members":{"x":{}}}`, `{"x":0}`, ""}, {`{"closed":true,"members":{"x":{}}}`, `{"z":0,"x":0,"a":0}`, "closed/z closed/a"}, {`{"closed":true}`, "[1]", ""}, {`{"closed":true,"members":{"x":{"type":"null"}}}`, `{"y":0,"x":0}`, "closed/y type/x"}, {`{"closed":true,"members":{}}`, "{}", ""},
		{`{"items":{"type":"null"}}`, "[null,1,null,2]", "type/1 type/3"}, {`{"items":{"type":"null"}}`, "1", ""}, {`{"items":{"type":"null"}}`, `{"a":1}`, ""}, {`{"items":{"items":{"least":1}}}`, "[[1,0],0,[[]]]", "least/0/1"}, {`{"items":{"least":1,"type":"number"}}`, `[0,"x"]`, "least/0 type/1"},
		{`{"members":{"a":{"least":1},"b":{"least":1}}}`, `{"b":0,"c":0,"a":0}`, "least/b least/a"}, {`{"members":{"a":{"need":["x"],"type":"object"}}}`, `{"a":{}}`, "need/a/x"}, {`{"members":{"0":{"least":1}}}`, "[0]", ""}, {`{"members":{"a":{}}}`, "{}", ""},
		{`{"all":[{"least":1},{"most":-1,"type":"null"}]}`, "0", "least type most"}, {`{"all":[]}`, "0", ""}, {`{"all":[{"items":{"least":1}},{"long":0}]}`, "[0]", "least/0 long"}, {`{"any":[]}`, "0", "any"}, {`{"any":[{"least":1},{"most":-1}]}`, "0", "any"}, {`{"any":[{"least":1},{}]}`, "0", ""}, {`{"any":[{"items":{"least":1}},{"need":["x"]}]}`, "[0]", ""}, {`{"any":[{"items":{"least":1}}]}`, "[1,0]", "any"}, {`{"not":{"least":1}}`, "0", ""}, {`{"not":{"least":1}}`, "1", "not"}, {`{"not":{}}`, "0", "not"}, {`{"not":{"not":{"type":"null"}}}`, "null", ""}, {`{"not":{"not":{"type":"null"}}}`, "0", "not"}, {`{"not":{"need":["a"]}}`, "{}", ""}, {`{"not":{"closed":true}}`, `{"a":1}`, ""}, {`{"not":{"all":[{},{"type":"null"}]}}`, "1", ""},
		{`{"not":{},"any":[],"all":[{"type":"null"}],"members":{"b":{"type":"null"}},"closed":true,"need":["z"],"long":0,"short":3,"enum":[],"type":"array"}`, `{"b":1,"a":2}`, "type enum short long need/z closed/a type/b type any not"}, {`{"members":{"a":{"items":{"members":{"b":{"enum":[1]}}}}}}`, `{"a":[{"b":1},{"b":2},{"c":3}]}`, "enum/a/1/b"},
	} {
		s, v := of(t, c.s), of(t, c.v)
		l, err := schema.Check(s, v)
		if told(l) != c.want || err != api.OK || schema.Fits(s, v) != (c.want == "") {
			t.Errorf("%s; %s: %s, %d, %v, not %s", c.s, c.v, told(l), err, schema.Fits(s, v), c.want)
		}
	}
	for _, v := range []api.Value{{}, {Kind: api.KindHole, Text: "0"}, value.Of("\xff")} {
		if l, err := schema.Check(of(t, "{}"), v); l != nil || err != api.ErrArg || schema.Fits(of(t, "{}"), v) {
			t.Errorf("%v: %v, %d", v, l, err)
		}
	}
}

// arr and obj are values of items.
func arr(l ...api.Value) api.Value { return api.Value{Kind: api.KindArray, Items: l} }

func obj(key string, v api.Value) api.Value {
	return api.Value{Kind: api.KindObject, Keys: []string{key}, Items: []api.Value{v}}
}

// random is a schema of at most a depth.
func random(x *samples.Source, depth int) api.Value {
	s := api.Value{Kind: api.KindObject}
	add := func(word string, v api.Value) {
		if !slices.Contains(s.Keys, word) {
			s.Keys, s.Items = append(s.Keys, word), append(s.Items, v)
		}
	}
	for range x.Under(3) {
		switch x.Under(8) {
		case 0:
			add("type", value.Of([]string{"null", "bool", "number", "string", "array", "object"}[x.Under(6)]))
		case 1:
			add("enum", arr(x.Value(2), x.Value(2), x.Leaf()))
		case 2:
			add([]string{"least", "most"}[x.Under(2)], value.Num(x.Under(4)))
		case 3:
			add([]string{"short", "long"}[x.Under(2)], value.Num(x.Under(3)))
		case 4:
			add("need", arr(value.Of(x.Word())))
		case 5:
			add("closed", api.Value{Kind: api.KindBool, Text: strconv.FormatBool(x.Under(2) == 0)})
		}
	}
	if depth > 0 {
		switch x.Under(5) {
		case 0:
			add("items", random(x, depth-1))
		case 1:
			add("members", obj(x.Word(), random(x, depth-1)))
		case 2:
			add("all", arr(random(x, depth-1), random(x, depth-1)))
		case 3:
			add("any", arr(random(x, depth-1), random(x, depth-1)))
		case 4:
			add("not", random(x, depth-1))
		}
	}
	return s
}

func TestLaws(t *testing.T) { // P30.3, P30.4, P30.5, P30.6
	x := samples.New(66)
	yes, no := 0, 0
	for _, v := range samples.Values(66, 1500) {
		a, b := random(x, 3), random(x, 3)
		inS, inV := samples.Roomy(a), samples.Roomy(v)
		l, err := schema.Check(inS, inV)
		fits := schema.Fits(inS, inV)
		if !schema.Right(inS) || err != api.OK || fits != (len(l) == 0) {
			t.Fatalf("%v; %v: %s, %d", a, v, told(l), err)
		}
		if fits {
			yes++
		} else {
			no++
		}
		other := schema.Fits(b, v)
		if schema.Fits(obj("all", arr(a, b)), v) != (fits && other) || schema.Fits(obj("any", arr(a, b)), v) != (fits || other) || schema.Fits(obj("not", a), v) == fits {
			t.Errorf("%v, %v; %v: %v, %v", a, b, v, fits, other)
		}
		if schema.Fits(x.Shuffled(a), x.Shuffled(v)) != fits {
			t.Errorf("%v; %v: %v, but not in another order", a, v, fits)
		}
		idle := value.Copy(a)
		for word, w := range map[string]api.Value{"need": arr(), "all": arr(), "short": value.Num(0), "items": {Kind: api.KindObject}, "closed": {Kind: api.KindBool, Text: "false"}, "not": obj("any", arr())} {
			if !slices.Contains(idle.Keys, word) {
				idle.Keys, idle.Items = append(idle.Keys, word), append(idle.Items, w)
			}
		}
		if schema.Fits(idle, v) != fits {
			t.Errorf("%v; %v: %v, but not with words that ask nothing", a, v, fits)
		}
		for i, f := range l {
			at := f.Path
			if f.Word == "need" {
				at = at[:len(at)-1]
			}
			if _, ok := pointer.Find(v, at); !ok || !slices.Contains([]string{"type", "enum", "least", "most", "short", "long", "need", "closed", "any", "not"}, f.Word) {
				t.Errorf("%v; %v: %v", a, v, f)
			}
			old := told(l[i+1:])
			_ = append(f.Path, "spoilt")
			for j := range f.Path {
				f.Path[j] = "spoilt"
			}
			if told(l[i+1:]) != old {
				t.Errorf("two lists of one answer share memory: %s", told(l))
			}
		}
		if !samples.Untouched(inS, a) || !samples.Untouched(inV, v) {
			t.Errorf("%v, %v were turned", a, v)
		}
	}
	if yes < 200 || no < 200 {
		t.Errorf("%d fit, %d do not", yes, no)
	}
}
