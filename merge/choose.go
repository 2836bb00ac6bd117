package merge

import (
	"scarf/api"
	"scarf/number"
	"scarf/value"
)

// Choose puts picked sides in the places of holes.
func Choose(v api.Value, l []api.Conflict, pick []int) (api.Value, api.Errno) {
	if !value.Open(v) || len(pick) != len(l) {
		return api.Value{}, api.ErrArg
	}
	c := &chooser{conflicts: l, count: make([]int, len(l))}
	for k := range l {
		side, ok := Side(l[k], pick[k])
		if !ok || !fits(l[k]) {
			return api.Value{}, api.ErrArg
		}
		c.sides = append(c.sides, side)
	}
	if !c.once(v) {
		return api.Value{}, api.ErrArg
	}
	whole := c.fill(v)
	if !whole.Has {
		return api.Value{}, api.ErrNone
	}
	if !value.Right(whole.Value) {
		return api.Value{}, api.ErrArg
	}
	return value.Copy(whole.Value), api.OK
}

// fits tells whether what the sides of a conflict have is what they may have.
func fits(c api.Conflict) bool {
	for _, s := range [3]api.Side{c.Base, c.Left, c.Right} {
		if s.Has && (!value.Right(s.Value) || c.Class == api.ClassInsert && s.Value.Kind != api.KindArray) {
			return false
		}
	}
	return true
}

// chooser has the picked side of each conflict, and how often its hole was had.
type chooser struct {
	conflicts []api.Conflict
	sides     []api.Side
	count     []int
}

// hole is the number of a hole.
func hole(v api.Value) (int, bool) {
	if v.Kind != api.KindHole {
		return 0, false
	}
	n, _ := number.Parse(v.Text)
	return number.Int(n)
}

// once tells whether an open tree has the hole of each conflict once, and no other one.
func (c *chooser) once(v api.Value) bool {
	if !c.known(v) {
		return false
	}
	for _, n := range c.count {
		if n != 1 {
			return false
		}
	}
	return true
}

// known counts the holes of a tree; false, if one is no conflict's.
func (c *chooser) known(v api.Value) bool {
	if k, ok := hole(v); ok {
		if k >= len(c.count) {
			return false
		}
		c.count[k]++
	}
	for _, item := range v.Items {
		if !c.known(item) {
			return false
		}
	}
	return true
}

// fill is a tree with the sides in the places of its holes.
func (c *chooser) fill(v api.Value) api.Side {
	if k, ok := hole(v); ok {
		return c.sides[k]
	}
	w := api.Value{Kind: v.Kind, Text: v.Text}
	for i, item := range v.Items {
		got := c.fill(item)
		switch {
		case !got.Has:
		case v.Kind == api.KindArray && c.inserts(item):
			w.Items = append(w.Items, got.Value.Items...)
		default:
			w.Items = append(w.Items, got.Value)
			if v.Kind == api.KindObject {
				w.Keys = append(w.Keys, v.Keys[i])
			}
		}
	}
	return some(w)
}

// inserts tells whether a tree is a hole in whose place items stand.
func (c *chooser) inserts(v api.Value) bool {
	k, ok := hole(v)
	return ok && c.conflicts[k].Class == api.ClassInsert
}
