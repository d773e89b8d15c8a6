package match

import (
	"math/bits"

	"bramble/syntax"
)

// taker takes all of a text between two places, and notes what the groups in it take. It is asked only where its part of a pattern matches what stands between them.
type taker func(t *text, from int, to int)

// Groups is two places between runes for each group of a pattern without "and" and "not": where the part of a text begins that it took, and where it ends; -1 and -1, if it took none. It answers false, if the runes of the text do not match.
func (p *Pattern) Groups(runes []rune) ([]int, bool) {
	t := p.text(runes)
	if !p.matches(t) {
		return nil, false
	}
	t.groups = make([]int, 2*p.groups)
	for i := range t.groups {
		t.groups[i] = -1
	}
	p.whole.take(t, 0, len(runes))
	return t.groups, true
}

// takeNothing is for parts without groups, and for "and" and "not", whose groups are not asked for.
func takeNothing(t *text, from int, to int) {}

func takeGroup(inside part, number int) taker {
	return func(t *text, from int, to int) {
		inside.take(t, from, to)
		t.groups[2*number], t.groups[2*number+1] = from, to
	}
}

func takeOr(parts []part) taker {
	return func(t *text, from int, to int) {
		for _, p := range parts {
			if p.ends(t, from).has(to) {
				p.take(t, from, to)
				return
			}
		}
	}
}

func takeRow(parts []part) taker {
	return func(t *text, from int, to int) {
		// behind is, for each part, the places from which those behind it lead to the end.
		behind := make([]places, len(parts))
		now := place(to)
		for i := len(parts) - 1; i >= 0; i-- {
			behind[i] = now
			now = parts[i].leading(t, from, to, now)
		}
		for i, p := range parts {
			from = p.takeLongest(t, from, behind[i])
		}
	}
}

func takeMany(p part, least int, most int) taker {
	return func(t *text, from int, to int) {
		behind := p.behindTurns(t, from, to, least, most)
		turn := 0
		for ; from < to; turn++ {
			// It is never the empty beginning, while there is more to take: of turns, the empty ones may as well come last.
			from = p.takeLongest(t, from, behind[turn])
		}
		// The turns that are still owed would all take the same, so one stands for them: with parts in parts, all of them would be too many to go through.
		if turn < least {
			p.take(t, to, to)
		}
	}
}

// behindTurns is, for each turn of a part that comes many times, the places from which the turns behind it lead to the end.
func (p part) behindTurns(t *text, from int, to int, least int, most int) []places {
	// Each turn that is not owed takes a rune or more.
	turns := least + to - from
	if most != syntax.NoEnd {
		turns = min(turns, most)
	}
	behind := make([]places, turns)
	now := place(to)
	for turn := turns - 1; turn >= 0; turn-- {
		behind[turn] = now
		now = p.leading(t, from, to, now)
		if turn >= least {
			now |= place(to)
		}
	}
	return behind
}

// leading is the places from which a part leads to one of some others.
func (p part) leading(t *text, from int, to int, others places) places {
	var out places
	for at := from; at <= to; at++ {
		if p.ends(t, at)&others != 0 {
			out |= place(at)
		}
	}
	return out
}

// takeLongest takes as much as leads to one of some places, and tells which.
func (p part) takeLongest(t *text, from int, others places) int {
	to := bits.Len64(uint64(p.ends(t, from)&others)) - 1
	p.take(t, from, to)
	return to
}
