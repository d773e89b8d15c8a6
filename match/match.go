// Package match makes closures of a pattern that tell whether a text matches and which part of it each group takes.
package match

import (
	"math/bits"

	"bramble/api"
	"bramble/ranges"
	"bramble/syntax"
)

// places is a set of places in a text, a bit each: 0 is ahead of the first rune, 1 behind it, and so on. A text of MaxText bytes leaves the highest bit free.
type places uint64

// asked marks places that are known.
const asked places = 1 << 63

// text is a text while a pattern goes over it.
type text struct {
	runes  []rune
	known  [][]places // for each part and each place where it begins, where it ends; 0, if it was not asked
	groups []int      // for each group two places, between which stands what it took last
}

// part is a part of a pattern.
type part struct {
	ends ends
	take taker
}

// ends goes on from a place of a text to all places behind what a part of a pattern matches.
type ends func(t *text, at int) places

// maker counts the parts that remember and the groups, so that each has a number.
type maker struct {
	parts  int
	groups int
}

// Pattern is a pattern for texts of at most MaxText bytes.
type Pattern struct {
	whole  part
	parts  int // that remember
	groups int
}

// New makes closures of a pattern.
func New(n *syntax.Node) *Pattern {
	m := &maker{}
	whole := m.part(n)
	return &Pattern{whole: whole, parts: m.parts, groups: m.groups}
}

// Match tells whether the runes of a text match.
func (p *Pattern) Match(runes []rune) bool {
	return p.matches(p.text(runes))
}

func (p *Pattern) text(runes []rune) *text {
	return &text{runes: runes, known: table(p.parts, len(runes)+1)}
}

func (p *Pattern) matches(t *text) bool {
	return p.whole.ends(t, 0).has(len(t.runes))
}

func table(rows int, columns int) [][]places {
	out := make([][]places, rows)
	for i := range out {
		out[i] = make([]places, columns)
	}
	return out
}

// place is the set of one place.
func place(at int) places {
	return 1 << at
}

// has tells whether a place is one of some.
func (p places) has(at int) bool {
	return p&place(at) != 0
}

func (m *maker) part(n *syntax.Node) part {
	if n.Kind == syntax.Group {
		return m.group(n.Parts[0])
	}
	parts := m.all(n.Parts)
	switch n.Kind {
	case syntax.Row:
		return part{m.remember(row(parts)), takeRow(parts)}
	case syntax.Or:
		return part{m.remember(or(parts)), takeOr(parts)}
	case syntax.And:
		return part{m.remember(and(parts)), takeNothing}
	case syntax.Not:
		return part{m.remember(not(parts[0])), takeNothing}
	case syntax.Many:
		return part{m.remember(many(parts[0], n.Least, n.Most)), takeMany(parts[0], n.Least, n.Most)}
	}
	return part{set(n.Set), takeNothing}
}

// group gives a group its number ahead of those in it: its parenthesis opens first.
func (m *maker) group(n *syntax.Node) part {
	number := m.groups
	m.groups++
	inside := m.part(n)
	return part{inside.ends, takeGroup(inside, number)}
}

func (m *maker) all(list []*syntax.Node) []part {
	var out []part
	for _, n := range list {
		out = append(out, m.part(n))
	}
	return out
}

// remember works each place out only once: parts in parts would else be asked the same again and again, ever more often the deeper they stand.
func (m *maker) remember(e ends) ends {
	number := m.parts
	m.parts++
	return func(t *text, at int) places {
		known := &t.known[number][at]
		if *known == 0 {
			*known = e(t, at) | asked
		}
		return *known &^ asked
	}
}

// goOn goes on from each of some places.
func (p part) goOn(t *text, from places) places {
	var out places
	for ; from != 0; from &= from - 1 {
		out |= p.ends(t, bits.TrailingZeros64(uint64(from)))
	}
	return out
}

func set(list []api.Range) ends {
	return func(t *text, at int) places {
		if at < len(t.runes) && ranges.Has(list, int(t.runes[at])) {
			return place(at + 1)
		}
		return 0
	}
}

func row(parts []part) ends {
	return func(t *text, at int) places {
		now := place(at)
		for _, p := range parts {
			now = p.goOn(t, now)
		}
		return now
	}
}

func or(parts []part) ends {
	return func(t *text, at int) places {
		var out places
		for _, p := range parts {
			out |= p.ends(t, at)
		}
		return out
	}
}

func and(parts []part) ends {
	return func(t *text, at int) places {
		out := t.onward(at)
		for _, p := range parts {
			out &= p.ends(t, at)
		}
		return out
	}
}

func not(p part) ends {
	return func(t *text, at int) places {
		return t.onward(at) &^ p.ends(t, at)
	}
}

// onward is all places from one on.
func (t *text) onward(at int) places {
	return place(len(t.runes)+1) - place(at)
}

func many(p part, least int, most int) ends {
	return func(t *text, at int) places {
		now := place(at)
		for range least {
			now = p.goOn(t, now)
		}
		out := now
		for turn := least; turn != most && now != 0; turn++ {
			// From a place where fewer turns lead, all has been seen that more turns could find.
			now = p.goOn(t, now) &^ out
			out |= now
		}
		return out
	}
}
