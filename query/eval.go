package query

import (
	"iter"
	"slices"
	"strconv"

	"scarf/api"
	"scarf/pointer"
	"scarf/value"
)

// node is one of a tree: its path, the numbers of those right beneath it, and of the first one behind all that is beneath it.
type node struct {
	value api.Value
	path  []string
	kids  []int
	end   int
}

// nodes are those of a tree, each ahead of what is beneath it.
type nodes []node

// grow adds a tree, and tells its number.
func (x *nodes) grow(v api.Value, path []string) int {
	k := len(*x)
	*x = append(*x, node{value: v, path: path})
	for i, item := range v.Items {
		step := strconv.Itoa(i)
		if v.Kind == api.KindObject {
			step = v.Keys[i]
		}
		kid := x.grow(item, append(slices.Clip(path), step))
		(*x)[k].kids = append((*x)[k].kids, kid)
	}
	(*x)[k].end = len(*x)
	return k
}

// lead is the number of the node to which a path leads from another one.
func (x nodes) lead(k int, path []string) (int, bool) {
	for _, step := range path {
		i, ok := below(x[k].value, step)
		if !ok {
			return 0, false
		}
		k = x[k].kids[i]
	}
	return k, true
}

// below is the number of the item to which a step leads.
func below(v api.Value, step string) (int, bool) {
	if v.Kind == api.KindObject {
		i := slices.Index(v.Keys, step)
		return i, i >= 0
	}
	i, ok := pointer.Index(step)
	return i, ok && v.Kind == api.KindArray && i < len(v.Items)
}

// Eval are the paths that a query tells.
func Eval(v api.Value, l []api.Look) ([][]string, api.Errno) {
	if !value.Right(v) || !Right(l) {
		return nil, api.ErrArg
	}
	var x nodes
	told := []int{x.grow(v, nil)}
	for _, k := range l {
		told = x.once(told, x.teller(k))
	}
	var paths [][]string
	for _, k := range told {
		paths = append(paths, slices.Clone(x[k].path))
	}
	return paths, api.OK
}

// once are the numbers that are told of some, each but once.
func (x nodes) once(from []int, tell func(k int) iter.Seq[int]) []int {
	var all []int
	had := make([]bool, len(x))
	for _, k := range from {
		for kid := range tell(k) {
			if !had[kid] {
				had[kid] = true
				all = append(all, kid)
			}
		}
	}
	return all
}

// teller is what tells the nodes that a look tells of one.
func (x nodes) teller(l api.Look) func(k int) iter.Seq[int] {
	switch l.Do {
	case api.LookKey:
		return func(k int) iter.Seq[int] { return x.member(k, l.Name) }
	case api.LookIndex:
		return func(k int) iter.Seq[int] { return x.item(k, l.N) }
	case api.LookDeep:
		return func(k int) iter.Seq[int] { return x.beneath(k) }
	case api.LookSlice:
		return func(k int) iter.Seq[int] { return x.slice(k, l.From, l.To) }
	case api.LookWhere:
		return func(k int) iter.Seq[int] { return x.where(k, l) }
	}
	return func(k int) iter.Seq[int] { return slices.Values(x[k].kids) }
}

// member is that of a key.
func (x nodes) member(k int, key string) iter.Seq[int] {
	if x[k].value.Kind != api.KindObject {
		return slices.Values[[]int](nil)
	}
	i, ok := below(x[k].value, key)
	return x.row(k, i, i+1, ok)
}

// item is that of a number, counted from the end, if it is below 0.
func (x nodes) item(k, n int) iter.Seq[int] {
	count := len(x[k].kids)
	if n < 0 {
		n += count
	}
	return x.row(k, n, n+1, x[k].value.Kind == api.KindArray && 0 <= n && n < count)
}

// slice are the items from one to ahead of another one.
func (x nodes) slice(k, from, to int) iter.Seq[int] {
	count := len(x[k].kids)
	return x.row(k, min(from, count), min(to, count), x[k].value.Kind == api.KindArray)
}

// row are kids from one to ahead of another one, if there are any.
func (x nodes) row(k, from, to int, ok bool) iter.Seq[int] {
	if !ok {
		return slices.Values[[]int](nil)
	}
	return slices.Values(x[k].kids[from:to])
}

// beneath are a node and all beneath it.
func (x nodes) beneath(k int) iter.Seq[int] {
	return func(yield func(int) bool) {
		for i := k; i < x[k].end; i++ {
			if !yield(i) {
				return
			}
		}
	}
}

// where are the kids of which a test holds.
func (x nodes) where(k int, l api.Look) iter.Seq[int] {
	return func(yield func(int) bool) {
		for kid := range slices.Values(x[k].kids) {
			at, ok := x.lead(kid, l.Path)
			if ok && holds(l.Test, x[at].value, l.Value) && !yield(kid) {
				return
			}
		}
	}
}

// holds tells whether a test of a value against another one does.
func holds(test int, v, w api.Value) bool {
	ordered := v.Kind == w.Kind && (w.Kind == api.KindNumber || w.Kind == api.KindString)
	switch test {
	case api.TestSame:
		return value.Same(v, w)
	case api.TestOther:
		return !value.Same(v, w)
	case api.TestLess:
		return ordered && value.Compare(v, w) < 0
	case api.TestMore:
		return ordered && value.Compare(v, w) > 0
	}
	return true
}

// Values are what paths lead to.
func Values(v api.Value, paths [][]string) []api.Value {
	if !value.Open(v) {
		return nil
	}
	var x nodes
	x.grow(v, nil)
	var all []api.Value
	for _, path := range paths {
		if k, ok := x.lead(0, path); ok {
			all = append(all, value.Copy(x[k].value))
		}
	}
	return all
}
