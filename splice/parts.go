package splice

import (
	"slices"

	"scarf/api"
	"scarf/json"
	"scarf/merge"
	"scarf/number"
	"scarf/quote"
	"scarf/value"
	"scarf/yaml"
	"scarf/yprint"
)

// maxIndent is the greatest one at which yprint writes.
const maxIndent = 256

// Parts are those of a merge into a text.
func Parts(format int, s string, v api.Value, l []api.Conflict) ([]api.Part, [][]int, api.Errno) {
	_, err := merge.Choose(v, l, alone(len(l), api.PickBase))
	if err == api.ErrArg || format != api.FormatJson && format != api.FormatYaml {
		return nil, nil, api.ErrArg
	}
	if len(l) == 0 {
		text, err := Any(format, s, v)
		return texts(text), nil, err
	}
	sure, open := split(v)
	if len(sure.Items) > 0 {
		text, err := Any(format, s, sure)
		if err != api.OK {
			return nil, nil, err
		}
		if at, write, ok := place(format, text); ok {
			parts, groups := around(text, at, open, l, write)
			return parts, groups, api.OK
		}
	}
	return whole(format, s, v, l)
}

// alone is one pick, so many times.
func alone(n, pick int) []int {
	return slices.Repeat([]int{pick}, n)
}

// texts is the part of a text, if it is not empty.
func texts(s string) []api.Part {
	if s == "" {
		return nil
	}
	return []api.Part{{Text: s}}
}

// member is one of an object, that has holes.
type member struct {
	key   string
	item  api.Value
	holes []int
}

// split is an object of the members without holes, and those with some; of another tree nothing.
func split(v api.Value) (api.Value, []member) {
	sure := api.Value{Kind: api.KindObject}
	var open []member
	if v.Kind != api.KindObject {
		return sure, nil
	}
	for i, item := range v.Items {
		if l := holes(item); len(l) > 0 {
			slices.Sort(l)
			open = append(open, member{v.Keys[i], item, l})
			continue
		}
		sure.Keys = append(sure.Keys, v.Keys[i])
		sure.Items = append(sure.Items, item)
	}
	return sure, open
}

// holes are the numbers of a tree's.
func holes(v api.Value) []int {
	if v.Kind == api.KindHole {
		n, _ := number.Parse(v.Text)
		k, _ := number.Int(n)
		return []int{k}
	}
	var all []int
	for _, item := range v.Items {
		all = append(all, holes(item)...)
	}
	return all
}

// place is where in a text of an object hunks of members may stand, and how a member is written there.
func place(format int, text string) (int, func(key string, v api.Value) string, bool) {
	if format == api.FormatJson {
		d, _, err := json.Parse(text)
		if err != api.OK {
			return 0, nil, false
		}
		return d.Nodes[0].Span.From + 1, func(key string, v api.Value) string {
			quoted, _ := quote.Quote(key)
			return "\n" + quoted + ": " + compact(v) + ","
		}, true
	}
	d, _, err := yaml.Parse(text)
	if err != api.OK || d.Nodes[0].Kind != api.NodeMap || d.Nodes[0].Indent > maxIndent {
		return 0, nil, false
	}
	whole := d.Nodes[0]
	return d.Lines[whole.From].Span.From, func(key string, v api.Value) string {
		line, _ := yprint.Member(key, v, whole.Indent)
		return line
	}, true
}

// around puts a hunk of each open member into a text.
func around(text string, at int, open []member, l []api.Conflict, write func(key string, v api.Value) string) ([]api.Part, [][]int) {
	parts := texts(text[:at])
	var groups [][]int
	for _, m := range open {
		p := api.Part{Hunk: true}
		for pick := range p.Sides {
			if v, ok := m.choose(l, pick); ok {
				p.Sides[pick] = write(m.key, v)
			}
		}
		parts = append(parts, p)
		groups = append(groups, m.holes)
	}
	return append(parts, texts(text[at:])...), groups
}

// choose is what a member alone is, its conflicts picked alike; false, if it is not there.
func (m member) choose(l []api.Conflict, pick int) (api.Value, bool) {
	var own []api.Conflict
	fresh := map[int]int{}
	for i, k := range m.holes {
		own = append(own, l[k])
		fresh[k] = i
	}
	v, err := merge.Choose(renumbered(m.item, fresh), own, alone(len(own), pick))
	return v, err == api.OK
}

// renumbered is a tree whose holes have other numbers.
func renumbered(v api.Value, fresh map[int]int) api.Value {
	w := api.Value{Kind: v.Kind, Text: v.Text, Keys: v.Keys}
	if v.Kind == api.KindHole {
		w.Text = value.Num(fresh[holes(v)[0]]).Text
	}
	for _, item := range v.Items {
		w.Items = append(w.Items, renumbered(item, fresh))
	}
	return w
}

// whole is one hunk of whole texts.
func whole(format int, s string, v api.Value, l []api.Conflict) ([]api.Part, [][]int, api.Errno) {
	p := api.Part{Hunk: true}
	for pick := range p.Sides {
		w, err := merge.Choose(v, l, alone(len(l), pick))
		if err != api.OK {
			return nil, nil, err
		}
		p.Sides[pick], err = Any(format, s, w)
		if err != api.OK {
			return nil, nil, err
		}
	}
	var all []int
	for k := range l {
		all = append(all, k)
	}
	return []api.Part{p}, [][]int{all}, api.OK
}
