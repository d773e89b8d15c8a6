// Package rest makes closures of a pattern that tell what is left of it behind a rune, and looks by them for least texts.
package rest

import (
	"cmp"
	"slices"
	"strconv"

	"bramble/api"
	"bramble/ranges"
	"bramble/syntax"
)

// rest is what is left of a pattern behind the beginning of a text. Of one maker, two rests that are made alike are one.
type rest struct {
	number int
	kind   syntax.Kind
	parts  []*rest
	ends   bool              // whether the empty text matches
	behind func(r int) *rest // what is left behind one more rune
}

// maker has the rests that it made, by what they are made of.
type maker struct {
	made  map[string]*rest
	none  *rest // matches nothing
	empty *rest // matches the empty text alone
}

func newMaker() *maker {
	m := &maker{made: map[string]*rest{}}
	m.none = m.or()
	m.empty = m.keep(&rest{kind: syntax.Row, ends: true, behind: func(int) *rest { return m.none }})
	return m
}

// of makes the rest of a pattern ahead of the first rune.
func (m *maker) of(n *syntax.Node) *rest {
	var parts []*rest
	for _, p := range n.Parts {
		parts = append(parts, m.of(p))
	}
	switch n.Kind {
	case syntax.Set:
		return m.set(n.Set)
	case syntax.Row:
		return m.row(parts)
	case syntax.Or:
		return m.or(parts...)
	case syntax.And:
		return m.and(parts)
	case syntax.Not:
		return m.not(parts[0])
	case syntax.Many:
		return m.many(parts[0], n.Least, n.Most)
	}
	return parts[0]
}

// keep is the rest that was made of the same before, or else this one.
func (m *maker) keep(fresh *rest, madeOf ...int) *rest {
	name := strconv.Itoa(int(fresh.kind))
	for _, n := range madeOf {
		name += " " + strconv.Itoa(n)
	}
	for _, p := range fresh.parts {
		name += " " + strconv.Itoa(p.number)
	}
	if old, ok := m.made[name]; ok {
		return old
	}
	fresh.number = len(m.made)
	fresh.behind = remember(fresh.behind)
	m.made[name] = fresh
	return fresh
}

// remember makes a function that works each rune out only once: a rest may stand in many others.
func remember(behind func(r int) *rest) func(r int) *rest {
	known := map[int]*rest{}
	return func(r int) *rest {
		left, ok := known[r]
		if !ok {
			left = behind(r)
			known[r] = left
		}
		return left
	}
}

func (m *maker) set(list []api.Range) *rest {
	if len(list) == 0 {
		return m.none
	}
	var ends []int
	for _, r := range list {
		ends = append(ends, r.Low, r.High)
	}
	behind := func(r int) *rest {
		if ranges.Has(list, r) {
			return m.empty
		}
		return m.none
	}
	return m.keep(&rest{kind: syntax.Set, behind: behind}, ends...)
}

func (m *maker) row(parts []*rest) *rest {
	out := m.empty
	for _, p := range slices.Backward(parts) {
		out = m.pair(p, out)
	}
	return out
}

// pair is one rest and another behind it.
func (m *maker) pair(a *rest, b *rest) *rest {
	switch {
	case a == m.none || b == m.none:
		return m.none
	case a == m.empty:
		return b
	case b == m.empty:
		return a
	case a.kind == syntax.Row:
		return m.pair(a.parts[0], m.pair(a.parts[1], b))
	}
	behind := func(r int) *rest {
		left := m.pair(a.behind(r), b)
		if a.ends {
			left = m.or(left, b.behind(r))
		}
		return left
	}
	return m.keep(&rest{kind: syntax.Row, parts: []*rest{a, b}, ends: a.ends && b.ends, behind: behind})
}

func (m *maker) or(parts ...*rest) *rest {
	var list []*rest
	for _, p := range parts {
		if p.kind == syntax.Or {
			list = append(list, p.parts...)
		} else {
			list = append(list, p)
		}
	}
	slices.SortFunc(list, func(a, b *rest) int { return cmp.Compare(a.number, b.number) })
	list = slices.Compact(list)
	if len(list) == 1 {
		return list[0]
	}
	behind := func(r int) *rest {
		var left []*rest
		for _, p := range list {
			left = append(left, p.behind(r))
		}
		return m.or(left...)
	}
	ends := slices.ContainsFunc(list, func(p *rest) bool { return p.ends })
	return m.keep(&rest{kind: syntax.Or, parts: list, ends: ends, behind: behind})
}

// and is told by or and not, so that what is made alike by it is found in one way alone.
func (m *maker) and(parts []*rest) *rest {
	var others []*rest
	for _, p := range parts {
		others = append(others, m.not(p))
	}
	return m.not(m.or(others...))
}

func (m *maker) not(a *rest) *rest {
	if a.kind == syntax.Not {
		return a.parts[0]
	}
	behind := func(r int) *rest { return m.not(a.behind(r)) }
	return m.keep(&rest{kind: syntax.Not, parts: []*rest{a}, ends: !a.ends, behind: behind})
}

func (m *maker) many(a *rest, least int, most int) *rest {
	if most == 0 {
		return m.empty
	}
	// Where a matches the empty text, a turn that takes it changes nothing: the first rune may always belong to the first turn.
	behind := func(r int) *rest { return m.pair(a.behind(r), m.many(a, fewer(least), fewer(most))) }
	return m.keep(&rest{kind: syntax.Many, parts: []*rest{a}, ends: least == 0 || a.ends, behind: behind}, least, most)
}

// fewer is how many turns are left behind one; none is left of none, and without end stays without end.
func fewer(turns int) int {
	if turns > 0 {
		return turns - 1
	}
	return turns
}
