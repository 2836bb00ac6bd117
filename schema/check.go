package schema

import (
	"slices"
	"strconv"
	"unicode/utf8"

	"scarf/api"
	"scarf/number"
	"scarf/value"
)

// checker gathers flaws: all of them, or no more than tell that there is one.
type checker struct {
	once  bool
	flaws []api.Flaw
}

// fits tells whether a value has no flaw.
func fits(s, v api.Value) bool {
	c := &checker{once: true}
	c.check(s, v, nil)
	return len(c.flaws) == 0
}

// flaw adds one.
func (c *checker) flaw(word string, path []string) {
	c.flaws = append(c.flaws, api.Flaw{Path: slices.Clone(path), Word: word})
}

// below is a longer path.
func below(path []string, step string) []string {
	return append(slices.Clip(path), step)
}

// check adds the flaws of a value at a path, word by word.
func (c *checker) check(s, v api.Value, path []string) {
	for _, word := range words() {
		k := slices.Index(s.Keys, word)
		if k < 0 || c.once && len(c.flaws) > 0 {
			continue
		}
		holds := place{c, s, s.Items[k], v, path}.asks(word)
		if !holds() {
			c.flaw(word, path)
		}
	}
}

// place is where a word is asked: its schema, what stands behind it, a value, and its path.
type place struct {
	*checker
	schema api.Value
	want   api.Value
	v      api.Value
	path   []string
}

// asks is what a word asks, which tells whether that holds. Words that have flaws at other places add these, and tell a yes.
func (x place) asks(word string) func() bool {
	switch word {
	case wordType:
		return x.isKind
	case wordEnum:
		return x.isListed
	case wordLeast:
		return x.isEnough
	case wordMost:
		return x.isNotTooMuch
	case wordShort:
		return x.isLongEnough
	case wordLong:
		return x.isNotTooLong
	case wordNeed:
		return x.hasNeeded
	case wordClosed:
		return x.hasNoOther
	case wordItems:
		return x.itemsFit
	case wordMembers:
		return x.membersFit
	case wordAll:
		return x.fitsAll
	case wordAny:
		return x.fitsAny
	}
	return x.fitsNot
}

// isKind asks for a kind.
func (x place) isKind() bool {
	return x.v.Kind == kind(x.want.Text)
}

// isListed asks for one of a row.
func (x place) isListed() bool {
	return slices.ContainsFunc(x.want.Items, func(w api.Value) bool { return w.Kind == x.v.Kind && value.Same(w, x.v) })
}

// isEnough asks for a number that is not less.
func (x place) isEnough() bool {
	return x.v.Kind != api.KindNumber || number.Compare(decimal(x.v), decimal(x.want)) >= 0
}

// isNotTooMuch asks for a number that is not more.
func (x place) isNotTooMuch() bool {
	return x.v.Kind != api.KindNumber || number.Compare(decimal(x.v), decimal(x.want)) <= 0
}

// long is how many runes, items or members a value has, if it has any such.
func (x place) long() (int, bool) {
	switch x.v.Kind {
	case api.KindString:
		return utf8.RuneCountInString(x.v.Text), true
	case api.KindArray, api.KindObject:
		return len(x.v.Items), true
	}
	return 0, false
}

// isLongEnough asks for as many, or more.
func (x place) isLongEnough() bool {
	least, _ := count(x.want)
	n, ok := x.long()
	return !ok || n >= least
}

// isNotTooLong asks for as many, or fewer.
func (x place) isNotTooLong() bool {
	most, _ := count(x.want)
	n, ok := x.long()
	return !ok || n <= most
}

// hasNeeded asks for members.
func (x place) hasNeeded() bool {
	for _, key := range x.want.Items {
		if x.v.Kind == api.KindObject && !slices.Contains(x.v.Keys, key.Text) {
			x.flaw(wordNeed, below(x.path, key.Text))
		}
	}
	return true
}

// hasNoOther asks for no members but those that the schema names.
func (x place) hasNoOther() bool {
	var known []string
	if k := slices.Index(x.schema.Keys, wordMembers); k >= 0 {
		known = x.schema.Items[k].Keys
	}
	for _, key := range x.v.Keys {
		if x.want.Text == "true" && !slices.Contains(known, key) {
			x.flaw(wordClosed, below(x.path, key))
		}
	}
	return true
}

// itemsFit asks for items that fit a schema.
func (x place) itemsFit() bool {
	if x.v.Kind != api.KindArray {
		return true
	}
	for i, item := range x.v.Items {
		x.check(x.want, item, below(x.path, strconv.Itoa(i)))
	}
	return true
}

// membersFit asks for members that fit the schemas of their keys.
func (x place) membersFit() bool {
	for i, key := range x.v.Keys {
		if k := slices.Index(x.want.Keys, key); k >= 0 {
			x.check(x.want.Items[k], x.v.Items[i], below(x.path, key))
		}
	}
	return true
}

// fitsAll asks that all of a row of schemas are fitted.
func (x place) fitsAll() bool {
	for _, s := range x.want.Items {
		x.check(s, x.v, x.path)
	}
	return true
}

// fitsAny asks that one of a row is.
func (x place) fitsAny() bool {
	return slices.ContainsFunc(x.want.Items, func(s api.Value) bool { return fits(s, x.v) })
}

// fitsNot asks that a schema is not fitted.
func (x place) fitsNot() bool {
	return !fits(x.want, x.v)
}
