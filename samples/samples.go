// Package samples makes values and texts for the tests: many unlike ones, always the same.
package samples

import (
	"slices"
	"strconv"

	"scarf/api"
)

// Source is a row of numbers that hang on nothing but a seed.
type Source struct{ state uint64 }

// New is a source of a seed.
func New(seed int) *Source {
	return &Source{state: uint64(seed)*2654435769 + 1}
}

// Under is the next number, from 0 to ahead of n.
func (x *Source) Under(n int) int {
	x.state = x.state*6364136223846793005 + 1442695040888963407
	return int(x.state >> 33 % uint64(n))
}

// Word is a key or a text: mostly a short plain one, so that they often meet.
func (x *Source) Word() string {
	words := []string{"a", "b", "c", "id", "name"}
	odd := []string{"", " ", "a b", "a: b", "# x", "- ", "null", "1", "~", "/", "é€", "\n", "\"", "'", "\x7f", "a #b", "*", "\t\\", "true", "-1e5", "x:", "|", "[", "\U0001f600", "a~1", "**", "-", "=a", "+0"}
	if x.Under(4) > 0 {
		return words[x.Under(len(words))]
	}
	return odd[x.Under(len(odd))]
}

// Leaf is a value without items.
func (x *Source) Leaf() api.Value {
	switch x.Under(8) {
	case 0:
		return api.Value{Kind: api.KindNull}
	case 1:
		return api.Value{Kind: api.KindBool, Text: strconv.FormatBool(x.Under(2) == 0)}
	case 2, 3, 4:
		numbers := []string{"0", "1", "2", "3", "1e1", "-1", "15e-1", "-25e-3", "9223372036854775808", "1e1000000"}
		return api.Value{Kind: api.KindNumber, Text: numbers[x.Under(len(numbers))]}
	case 5:
		return api.Value{Kind: api.KindArray}
	case 6:
		return api.Value{Kind: api.KindObject}
	}
	return api.Value{Kind: api.KindString, Text: x.Word()}
}

// Value is a value of at most a depth.
func (x *Source) Value(depth int) api.Value {
	if depth <= 1 || x.Under(4) == 0 {
		return x.Leaf()
	}
	if x.Under(2) == 0 {
		return x.Array(depth)
	}
	return x.Object(depth)
}

// Array is one of at most four items.
func (x *Source) Array(depth int) api.Value {
	v := api.Value{Kind: api.KindArray}
	for range x.Under(5) {
		v.Items = append(v.Items, x.Value(depth-1))
	}
	return v
}

// Object is one of at most four members.
func (x *Source) Object(depth int) api.Value {
	v := api.Value{Kind: api.KindObject}
	for range x.Under(5) {
		v = with(v, x.Word(), x.Value(depth-1))
	}
	return v
}

// with is an object with a member, if it has none of that key.
func with(v api.Value, key string, item api.Value) api.Value {
	if slices.Contains(v.Keys, key) {
		return v
	}
	v.Keys = append(slices.Clone(v.Keys), key)
	v.Items = append(slices.Clone(v.Items), item)
	return v
}

// Turned is a value that differs a little.
func (x *Source) Turned(v api.Value) api.Value {
	if len(v.Items) == 0 || x.Under(6) == 0 {
		return x.Value(2)
	}
	w := api.Value{Kind: v.Kind, Keys: slices.Clone(v.Keys), Items: slices.Clone(v.Items)}
	k := x.Under(len(w.Items))
	switch x.Under(5) {
	case 0:
		w.Items = slices.Delete(w.Items, k, k+1)
		if v.Kind == api.KindObject {
			w.Keys = slices.Delete(w.Keys, k, k+1)
		}
	case 1:
		if v.Kind == api.KindObject {
			return with(w, x.Word(), x.Value(2))
		}
		w.Items = slices.Insert(w.Items, k, x.Value(2))
	default:
		w.Items[k] = x.Turned(w.Items[k])
	}
	return w
}

// Shuffled is the same value, with members in another order.
func (x *Source) Shuffled(v api.Value) api.Value {
	w := api.Value{Kind: v.Kind, Text: v.Text}
	for i, item := range v.Items {
		at := i
		if v.Kind == api.KindObject {
			at = x.Under(i + 1)
			w.Keys = slices.Insert(w.Keys, at, v.Keys[i])
		}
		w.Items = slices.Insert(w.Items, at, x.Shuffled(item))
	}
	return w
}

// Values are so many values of a seed, each behind one that it resembles.
func Values(seed, n int) []api.Value {
	x := New(seed)
	var all []api.Value
	for len(all) < n {
		v := x.Value(4)
		all = append(all, v, x.Turned(v), x.Shuffled(v))
	}
	return all[:n]
}

// Same tells whether two values are alike, members in order too; a nil list is an empty one.
func Same(a, b api.Value) bool {
	return a.Kind == b.Kind && a.Text == b.Text && slices.Equal(a.Keys, b.Keys) && slices.EqualFunc(a.Items, b.Items, Same)
}

// Spoil overwrites all that a value's lists hold, their spare room too.
func Spoil(v api.Value) {
	for i := range v.Items {
		Spoil(v.Items[i])
	}
	bad := api.Value{Kind: -1, Text: "spoilt"}
	for i := range v.Items {
		v.Items[i] = bad
	}
	for i := range v.Keys {
		v.Keys[i] = "spoilt"
	}
	_ = append(v.Items, bad)
	_ = append(v.Keys, "spoilt")
}

// Zero tells whether a tree is.
func Zero(v api.Value) bool {
	return Same(v, api.Value{})
}

// spare is what stands in the spare room of a roomy value's lists.
const spare = "spare"

// Roomy is a value whose lists have spare room, in which something stands.
func Roomy(v api.Value) api.Value {
	w := api.Value{Kind: v.Kind, Text: v.Text}
	for _, item := range v.Items {
		w.Items = append(w.Items, Roomy(item))
	}
	w.Items = append(slices.Clip(w.Items), api.Value{Text: spare})[:len(w.Items)]
	w.Keys = append(slices.Clone(v.Keys), spare)[:len(v.Keys)]
	return w
}

// Untouched tells whether a roomy value is as it was made of another one, its spare room too.
func Untouched(w, v api.Value) bool {
	if w.Kind != v.Kind || w.Text != v.Text || !slices.Equal(w.Keys, v.Keys) || len(w.Items) != len(v.Items) {
		return false
	}
	if w.Keys[:len(w.Keys)+1][len(w.Keys)] != spare || w.Items[:len(w.Items)+1][len(w.Items)].Text != spare {
		return false
	}
	for i := range w.Items {
		if !Untouched(w.Items[i], v.Items[i]) {
			return false
		}
	}
	return true
}
