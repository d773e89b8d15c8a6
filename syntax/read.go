package syntax

import (
	"unicode/utf8"

	"bramble/api"
	"bramble/ranges"
)

// reader goes over a pattern rune by rune. Each of its methods that answers false leaves it in front of the first rune that may not stand there: none steps over a rune before it is sure that a pattern can go on behind it.
type reader struct {
	text    string
	at      int
	deep    int // how many ( and ~ the reader is in
	deepest int
}

// Read is the tree of a pattern, or an error and its place (P4).
func Read(p string) (*Node, api.Errno, int) {
	if len(p) > api.MaxPattern {
		return nil, api.ErrLong, 0
	}
	if at, broken := brokenAt(p); broken {
		return nil, api.ErrUTF, at
	}
	r := &reader{text: p}
	n, ok := r.or()
	if !ok || r.look() != end {
		return nil, api.ErrPattern, r.at
	}
	if r.deepest > api.MaxDeep {
		return nil, api.ErrDeep, 0
	}
	return n, api.OK, 0
}

// brokenAt is the place of the first byte that is part of no rune, if there is one.
func brokenAt(p string) (int, bool) {
	for at := 0; at < len(p); {
		r, size := utf8.DecodeRuneInString(p[at:])
		// The rune U+FFFD itself has three bytes.
		if r == utf8.RuneError && size == 1 {
			return at, true
		}
		at += size
	}
	return 0, false
}

// look is the rune in front of the reader.
func (r *reader) look() rune {
	return runeAt(r.text, r.at)
}

// runeAt is the rune that begins at a place.
func runeAt(text string, at int) rune {
	if at >= len(text) {
		return end
	}
	c, _ := utf8.DecodeRuneInString(text[at:])
	return c
}

// step goes over the rune in front.
func (r *reader) step() {
	_, size := utf8.DecodeRuneInString(r.text[r.at:])
	r.at += size
}

// take goes over the rune in front, if it is this one.
func (r *reader) take(c rune) bool {
	if r.look() != c {
		return false
	}
	r.step()
	return true
}

func (r *reader) or() (*Node, bool) {
	return r.joined('|', Or, r.and)
}

func (r *reader) and() (*Node, bool) {
	return r.joined('&', And, r.row)
}

// joined reads parts with a sign between them; of one part alone it makes no node.
func (r *reader) joined(sign rune, kind Kind, read func() (*Node, bool)) (*Node, bool) {
	var parts []*Node
	for {
		n, ok := read()
		if !ok {
			return nil, false
		}
		parts = append(parts, n)
		if !r.take(sign) {
			break
		}
	}
	if len(parts) == 1 {
		return parts[0], true
	}
	return &Node{Kind: kind, Parts: parts}, true
}

func (r *reader) row() (*Node, bool) {
	row := &Node{Kind: Row}
	for beginsPart(r.look()) {
		n, ok := r.not()
		if !ok {
			return nil, false
		}
		row.Parts = append(row.Parts, n)
	}
	return row, true
}

// beginsPart tells whether a part of a row may begin with a rune.
func beginsPart(c rune) bool {
	switch c {
	case '~', '.', '\\', '[', '(':
		return true
	}
	return isOfAtom(c)
}

func (r *reader) not() (*Node, bool) {
	if !r.take('~') {
		return r.many()
	}
	return r.inside(Not, r.not)
}

// inside reads what stands in a ( or ~, one deeper.
func (r *reader) inside(kind Kind, read func() (*Node, bool)) (*Node, bool) {
	r.deep++
	r.deepest = max(r.deepest, r.deep)
	n, ok := read()
	r.deep--
	if !ok {
		return nil, false
	}
	return &Node{Kind: kind, Parts: []*Node{n}}, true
}

func (r *reader) many() (*Node, bool) {
	n, ok := r.atom()
	for ok && beginsTimes(r.look()) {
		n, ok = r.timesOf(n)
	}
	return n, ok
}

// beginsTimes tells whether a rune says how often what is ahead of it comes.
func beginsTimes(c rune) bool {
	return c == '*' || c == '+' || c == '?' || c == '{'
}

// timesOf reads how often a part comes.
func (r *reader) timesOf(part *Node) (*Node, bool) {
	least, most, ok := r.times()
	if !ok {
		return nil, false
	}
	return &Node{Kind: Many, Parts: []*Node{part}, Least: least, Most: most}, true
}

// times reads how often: at least, and at most.
func (r *reader) times() (int, int, bool) {
	switch {
	case r.take('*'):
		return 0, NoEnd, true
	case r.take('+'):
		return 1, NoEnd, true
	case r.take('?'):
		return 0, 1, true
	}
	return r.braces()
}

func (r *reader) braces() (int, int, bool) {
	if !r.take('{') {
		return 0, 0, false
	}
	least, ok := r.count(0)
	switch {
	case !ok:
		return 0, 0, false
	case r.take('}'):
		return least, least, true
	case !r.take(','):
		return 0, 0, false
	case r.take('}'):
		return least, NoEnd, true
	}
	most, ok := r.count(least)
	return least, most, ok && r.take('}')
}

// count reads a count that is not less than another.
func (r *reader) count(least int) (int, bool) {
	n := int(r.look()) - '0'
	if n < least || n > api.MaxCount {
		return 0, false
	}
	r.step()
	return n, true
}

func (r *reader) atom() (*Node, bool) {
	switch c := r.look(); {
	case c == '.':
		r.step()
		return &Node{Kind: Set, Set: dot()}, true
	case c == '\\':
		return r.escape()
	case c == '[':
		return r.bracket()
	case c == '(':
		return r.group()
	case isOfAtom(c):
		r.step()
		return &Node{Kind: Set, Set: one(c)}, true
	}
	return nil, false
}

func (r *reader) escape() (*Node, bool) {
	if class, ok := r.class(); ok {
		return &Node{Kind: Set, Set: class}, true
	}
	c, ok := r.sign(0)
	if !ok {
		return nil, false
	}
	return &Node{Kind: Set, Set: one(c)}, true
}

func (r *reader) group() (*Node, bool) {
	r.step()
	n, ok := r.inside(Group, r.or)
	if !ok || !r.take(')') {
		return nil, false
	}
	return n, true
}

func (r *reader) bracket() (*Node, bool) {
	r.step()
	others := r.take('^')
	var items []api.Range
	for !r.take(']') {
		item, ok := r.item()
		if !ok {
			return nil, false
		}
		items = append(items, item...)
	}
	if others {
		return &Node{Kind: Set, Set: ranges.Not(items)}, true
	}
	return &Node{Kind: Set, Set: ranges.Form(items)}, true
}

func (r *reader) item() ([]api.Range, bool) {
	if class, ok := r.class(); ok {
		return class, true
	}
	low, ok := r.single(0)
	if !ok {
		return nil, false
	}
	if !r.take('-') {
		return one(low), true
	}
	high, ok := r.single(low)
	if !ok {
		return nil, false
	}
	return []api.Range{{Low: int(low), High: int(high)}}, true
}

// class goes over a `\` and the letter of a class, if they are in front; else it stays.
func (r *reader) class() ([]api.Range, bool) {
	if r.look() != '\\' {
		return nil, false
	}
	class, ok := classOf(runeAt(r.text, r.at+1))
	if ok {
		r.at += 2
	}
	return class, ok
}

// single reads a rune of an item, or a `\` and a sign, whose rune is not less than another.
func (r *reader) single(least rune) (rune, bool) {
	c := r.look()
	if c == '\\' {
		return r.sign(least)
	}
	if !isOfItem(c) || c < least {
		return 0, false
	}
	r.step()
	return c, true
}

// sign reads a `\` and a sign whose rune is not less than another. Where no sign is great enough, the `\` itself may not stand.
func (r *reader) sign(least rune) (rune, bool) {
	if least > greatestSign || !r.take('\\') {
		return 0, false
	}
	c, ok := signed(r.look())
	if !ok || c < least {
		return 0, false
	}
	r.step()
	return c, true
}
