// Package match makes closures of a pattern that tell whether a text matches.
package match

import (
	"math/bits"

	"bramble/api"
	"bramble/ranges"
	"bramble/syntax"
)

// places is a set of places in a text, a bit each: 0 is ahead of the first rune, 1 behind it, and so on. A text of MaxText bytes leaves the highest bit free.
type places uint64

// asked marks places that are known.
const asked places = 1 << 63

// text is a text while a pattern goes over it.
type text struct {
	runes []rune
	known [][]places // for each part and each place where it begins, where it ends; 0, if it was not asked
}

// part goes on from a place of a text to all places behind what a part of a pattern matches.
type part func(t *text, at int) places

// maker counts the parts, so that each has a number.
type maker struct {
	parts int
}

// New makes of a pattern a function that tells whether it matches the runes of a text of at most MaxText bytes.
func New(n *syntax.Node) func(runes []rune) bool {
	m := &maker{}
	whole := m.part(n)
	return func(runes []rune) bool {
		t := &text{runes: runes, known: table(m.parts, len(runes)+1)}
		return whole(t, 0)&place(len(runes)) != 0
	}
}

func table(rows int, columns int) [][]places {
	out := make([][]places, rows)
	for i := range out {
		out[i] = make([]places, columns)
	}
	return out
}

// place is the set of one place.
func place(at int) places {
	return 1 << at
}

func (m *maker) part(n *syntax.Node) part {
	parts := m.all(n.Parts)
	switch n.Kind {
	case syntax.Set:
		return set(n.Set)
	case syntax.Row:
		return m.remember(row(parts))
	case syntax.Or:
		return m.remember(or(parts))
	case syntax.And:
		return m.remember(and(parts))
	case syntax.Not:
		return m.remember(not(parts[0]))
	case syntax.Many:
		return m.remember(many(parts[0], n.Least, n.Most))
	}
	return parts[0]
}

func (m *maker) all(list []*syntax.Node) []part {
	var out []part
	for _, n := range list {
		out = append(out, m.part(n))
	}
	return out
}

// remember makes a part that works each place out only once: parts in parts would else be asked the same again and again, ever more often the deeper they stand.
func (m *maker) remember(p part) part {
	number := m.parts
	m.parts++
	return func(t *text, at int) places {
		known := &t.known[number][at]
		if *known == 0 {
			*known = p(t, at) | asked
		}
		return *known &^ asked
	}
}

// goOn goes on from each of some places.
func (p part) goOn(t *text, from places) places {
	var out places
	for ; from != 0; from &= from - 1 {
		out |= p(t, bits.TrailingZeros64(uint64(from)))
	}
	return out
}

func set(list []api.Range) part {
	return func(t *text, at int) places {
		if at < len(t.runes) && ranges.Has(list, int(t.runes[at])) {
			return place(at + 1)
		}
		return 0
	}
}

func row(parts []part) part {
	return func(t *text, at int) places {
		now := place(at)
		for _, p := range parts {
			now = p.goOn(t, now)
		}
		return now
	}
}

func or(parts []part) part {
	return func(t *text, at int) places {
		var out places
		for _, p := range parts {
			out |= p(t, at)
		}
		return out
	}
}

func and(parts []part) part {
	return func(t *text, at int) places {
		out := t.onward(at)
		for _, p := range parts {
			out &= p(t, at)
		}
		return out
	}
}

func not(p part) part {
	return func(t *text, at int) places {
		return t.onward(at) &^ p(t, at)
	}
}

// onward is all places from one on.
func (t *text) onward(at int) places {
	return place(len(t.runes)+1) - place(at)
}

func many(p part, least int, most int) part {
	return func(t *text, at int) places {
		now := place(at)
		for range least {
			now = p.goOn(t, now)
		}
		out := now
		for turn := least; turn != most && now != 0; turn++ {
			// From a place where fewer turns lead, all has been seen that more turns could find.
			now = p.goOn(t, now) &^ out
			out |= now
		}
		return out
	}
}
