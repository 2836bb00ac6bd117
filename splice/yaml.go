package splice

import (
	"iter"
	"strings"

	"scarf/api"
	"scarf/value"
	"scarf/yaml"
	"scarf/yprint"
	"scarf/yread"
)

// Yaml writes one into a text of YAML.
func Yaml(s string, v api.Value) (string, api.Errno) {
	if !value.Right(v) {
		return "", api.ErrArg
	}
	d, _, err := yaml.Parse(s)
	if err != api.OK {
		return "", err
	}
	if old, _ := yaml.Node(d, 0); value.Same(old, v) {
		return s, api.OK
	}
	if whole := d.Nodes[0]; fits(whole.Kind, v) {
		x := &yamlText{Ydoc: d}
		x.keep(0, whole.From)
		x.block(0, v)
		text := x.String() + strings.TrimSuffix(x.lines(whole.To, len(d.Lines)), "\n")
		if w, _, err := yread.Read(text); err == api.OK && value.Same(w, v) {
			return text, api.OK
		}
	}
	text, err := yprint.Print(v)
	if err != api.OK {
		return "", err
	}
	return short(text)
}

// fits tells whether a value with items is of the kind of a node that is a list or a map.
func fits(node int, v api.Value) bool {
	return len(v.Items) > 0 && (node == api.NodeList && v.Kind == api.KindArray || node == api.NodeMap && v.Kind == api.KindObject)
}

// yamlText is a text of YAML into which values are written; it gathers the lines that come of it.
type yamlText struct {
	api.Ydoc
	strings.Builder
}

// lines are those from one to ahead of another one, each with a line feed.
func (x *yamlText) lines(from, to int) string {
	var b strings.Builder
	for i := from; i < to; i++ {
		span := x.Lines[i].Span
		b.WriteString(x.Text[span.From:span.To])
		b.WriteByte('\n')
	}
	return b.String()
}

// keep writes lines as they are.
func (x *yamlText) keep(from, to int) {
	x.WriteString(x.lines(from, to))
}

// kid is one of a block: its node, and its first line.
type kid struct {
	node  api.Ynode
	k     int
	begin int
}

// kids goes over a block's.
func (x *yamlText) kids(n api.Ynode) iter.Seq2[int, kid] {
	return func(yield func(i int, one kid) bool) {
		begin := n.From
		for i, k := range n.Kids {
			if !yield(i, kid{x.Nodes[k], k, begin}) {
				return
			}
			begin = x.Nodes[k].To
		}
	}
}

// head is the first content line of a kid.
func (x *yamlText) head(one kid) int {
	at := one.begin
	for x.Lines[at].Kind == api.LineBlank || x.Lines[at].Kind == api.LineNote {
		at++
	}
	return at
}

// block writes a block's lines for a value of its kind.
func (x *yamlText) block(k int, v api.Value) {
	n := x.Nodes[k]
	old, _ := yaml.Node(x.Ydoc, k)
	if n.Kind == api.NodeMap {
		x.members(n, old, v)
		return
	}
	var all []kid
	for _, one := range x.kids(n) {
		all = append(all, one)
	}
	for i, o := range beside(old.Items, v.Items) {
		item := v.Items[i]
		write := func() { x.made(yprint.Item(item, n.Indent)) }
		if o < 0 {
			write()
		} else {
			x.turn(all[o], old.Items[o], item, write)
		}
	}
}

// members writes a map's lines for an object.
func (x *yamlText) members(n api.Ynode, old, v api.Value) {
	at, had := numbers(v), numbers(old)
	member := func(i int) func() {
		return func() { x.made(yprint.Member(v.Keys[i], v.Items[i], n.Indent)) }
	}
	for o, one := range x.kids(n) {
		if i, ok := at[old.Keys[o]]; ok {
			x.turn(one, old.Items[o], v.Items[i], member(i))
		}
	}
	for i, key := range v.Keys {
		if _, ok := had[key]; !ok {
			member(i)()
		}
	}
}

// turn writes a kid's lines for a value, or, behind those ahead of its head, the value anew.
func (x *yamlText) turn(one kid, old, v api.Value, write func()) {
	switch {
	case value.Same(old, v):
		x.keep(one.begin, one.node.To)
	case fits(one.node.Kind, v):
		x.keep(one.begin, one.node.From)
		x.block(one.k, v)
	default:
		x.keep(one.begin, x.head(one))
		write()
	}
}

// made writes what was printed. Of an indent that yprint does not take nothing is there: what comes of it is not the value, and is not used.
func (x *yamlText) made(text string, _ api.Errno) {
	x.WriteString(text)
}
