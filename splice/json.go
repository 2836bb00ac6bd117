package splice

import (
	"iter"
	"strings"

	"scarf/api"
	"scarf/json"
	"scarf/print"
	"scarf/quote"
	"scarf/read"
	"scarf/value"
)

// Json writes a value into a text of JSON.
func Json(s string, v api.Value) (string, api.Errno) {
	if !value.Right(v) {
		return "", api.ErrArg
	}
	d, _, err := json.Parse(s)
	if err != api.OK {
		return "", err
	}
	whole := d.Nodes[0].Span
	return short(s[:whole.From] + jsonText{d}.node(0, v) + s[whole.To:])
}

// jsonText is a text of JSON into which values are written.
type jsonText struct {
	api.Doc
}

// cut are the bytes from one to ahead of another one.
func (x jsonText) cut(from, to int) string {
	return json.Slice(x.Doc, api.Span{From: from, To: to})
}

// node is a node's text for a value.
func (x jsonText) node(k int, v api.Value) string {
	n := x.Nodes[k]
	old, _ := read.Node(x.Doc, k)
	if value.Same(old, v) {
		return json.Slice(x.Doc, n.Span)
	}
	switch {
	case n.Kind != v.Kind || len(v.Items) == 0:
	case n.Kind == api.KindObject:
		return x.object(n, v)
	case n.Kind == api.KindArray:
		return x.array(n, old, v)
	}
	return compact(v)
}

// compact is a value as a text.
func compact(v api.Value) string {
	text, _ := print.Compact(v)
	return text
}

// style is how a node's first kid and its end are written: what stands ahead of it, between key and value, and at the end.
func (x jsonText) style(n api.Node) (lead, middle, end string) {
	count := len(n.Kids)
	if count == 0 {
		return "", ":", ""
	}
	first, last := x.Nodes[n.Kids[0]], x.Nodes[n.Kids[count-1]]
	lead = x.cut(n.Pieces[0].From, first.Span.From)
	if n.Kind == api.KindObject {
		lead = x.cut(n.Pieces[0].From, first.Key.From)
		middle = x.cut(first.Key.To, first.Span.From)
	}
	return lead, middle, x.cut(last.Span.To, n.Pieces[count-1].To)
}

// kid is a kid's text for a value, with what stands around it; what stands behind the last one is the end's.
func (x jsonText) kid(n api.Node, i int, v api.Value) string {
	k, piece := n.Kids[i], n.Pieces[i]
	text := x.cut(piece.From, x.Nodes[k].Span.From) + x.node(k, v)
	if i < len(n.Kids)-1 {
		text += x.cut(x.Nodes[k].Span.To, piece.To)
	}
	return text
}

// keys goes over an object's kids: their places, and what their keys stand for.
func (x jsonText) keys(n api.Node) iter.Seq2[int, string] {
	return func(yield func(i int, key string) bool) {
		for i, k := range n.Kids {
			key, _, _ := quote.Unquote(json.Slice(x.Doc, x.Nodes[k].Key))
			if !yield(i, key) {
				return
			}
		}
	}
}

// object is an object's text for one with members.
func (x jsonText) object(n api.Node, v api.Value) string {
	lead, middle, end := x.style(n)
	at, had := numbers(v), map[string]int{}
	var parts []string
	for i, key := range x.keys(n) {
		had[key] = i
		if k, ok := at[key]; ok {
			parts = append(parts, x.kid(n, i, v.Items[k]))
		}
	}
	for k, key := range v.Keys {
		if _, ok := had[key]; !ok {
			quoted, _ := quote.Quote(key)
			parts = append(parts, lead+quoted+middle+compact(v.Items[k]))
		}
	}
	return "{" + strings.Join(parts, ",") + end + "}"
}

// array is an array's text for one with items.
func (x jsonText) array(n api.Node, old, v api.Value) string {
	lead, _, end := x.style(n)
	var parts []string
	for k, i := range beside(old.Items, v.Items) {
		if i < 0 {
			parts = append(parts, lead+compact(v.Items[k]))
		} else {
			parts = append(parts, x.kid(n, i, v.Items[k]))
		}
	}
	return "[" + strings.Join(parts, ",") + end + "]"
}
