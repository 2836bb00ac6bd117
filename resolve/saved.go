package resolve

import (
	"strings"

	"scarf/api"
	"scarf/print"
	"scarf/quote"
	"scarf/value"
)

// Save are memos as a text.
func Save(t []api.Memo) (string, api.Errno) {
	if !Right(t) {
		return "", api.ErrArg
	}
	all := array()
	for _, m := range t {
		all.Items = append(all.Items, array(value.Of(m.Print), asValue(m.Side)))
	}
	return print.Canon(all)
}

// Load is the way back.
func Load(s string) ([]api.Memo, bool) {
	r := &reader{text: s}
	v, ok := r.value(1)
	if !ok || v.Kind != api.KindArray {
		return nil, false
	}
	var t []api.Memo
	for _, item := range v.Items {
		m, ok := memo(item)
		if !ok {
			return nil, false
		}
		t = append(t, m)
	}
	// Whatever was read too kindly is not what is saved of it.
	if text, err := Save(t); err != api.OK || text != s {
		return nil, false
	}
	return t, true
}

// memo is the one that a value says.
func memo(v api.Value) (api.Memo, bool) {
	if v.Kind != api.KindArray || len(v.Items) != 2 || v.Items[0].Kind != api.KindString {
		return api.Memo{}, false
	}
	side := v.Items[1]
	if side.Kind != api.KindArray || len(side.Items) > 1 {
		return api.Memo{}, false
	}
	m := api.Memo{Print: v.Items[0].Text}
	for _, w := range side.Items {
		m.Side = api.Side{Has: true, Value: w}
	}
	return m, true
}

// reader reads a text of JSON without blanks, however long it is: package read takes none beyond a limit, which what is saved may pass.
type reader struct {
	text string
	at   int
}

// take goes behind a sign, if it is the next one.
func (r *reader) take(sign string) bool {
	if !strings.HasPrefix(r.text[r.at:], sign) {
		return false
	}
	r.at += len(sign)
	return true
}

// value reads a value of a level.
func (r *reader) value(level int) (api.Value, bool) {
	switch {
	case level > api.MaxDepth:
		return api.Value{}, false
	case r.take("["):
		v := array()
		ok := r.list("]", func() bool { return r.item(&v, level) })
		return v, ok
	case r.take("{"):
		v := api.Value{Kind: api.KindObject}
		ok := r.list("}", func() bool { return r.member(&v, level) })
		return v, ok
	}
	if text, ok := r.quoted(); ok {
		return value.Of(text), true
	}
	return r.leaf(), true
}

// list reads what stands up to a sign, with commas between.
func (r *reader) list(end string, one func() bool) bool {
	if r.take(end) {
		return true
	}
	for one() {
		if r.take(end) {
			return true
		}
		if !r.take(",") {
			return false
		}
	}
	return false
}

// item reads an item of an array or object of a level.
func (r *reader) item(v *api.Value, level int) bool {
	item, ok := r.value(level + 1)
	v.Items = append(v.Items, item)
	return ok
}

// member reads a member of an object of a level.
func (r *reader) member(v *api.Value, level int) bool {
	key, ok := r.quoted()
	v.Keys = append(v.Keys, key)
	return ok && r.take(":") && r.item(v, level)
}

// quoted reads a string in quotes.
func (r *reader) quoted() (string, bool) {
	end, err := quote.End(r.text, r.at)
	if err != api.OK {
		return "", false
	}
	text, _, err := quote.Unquote(r.text[r.at:end])
	r.at = end
	return text, err == api.OK
}

// leaf reads what stands up to the next sign that none of null, true, false and numbers has.
func (r *reader) leaf() api.Value {
	text := r.text[r.at:]
	if end := strings.IndexAny(text, ",]}"); end >= 0 {
		text = text[:end]
	}
	r.at += len(text)
	switch text {
	case "null":
		return api.Value{Kind: api.KindNull}
	case "true", "false":
		return api.Value{Kind: api.KindBool, Text: text}
	}
	return api.Value{Kind: api.KindNumber, Text: text}
}
