package rx_test

import (
	"math/bits"
	"strings"
	"testing"

	"bramble/api"
	"bramble/rx"
)

// places is a set of places in a text, a bit each.
type places uint64

// mostForGrammar is how long a text may be that grammar is asked of: with what closes it, it still fits into places.
const mostForGrammar = 16

// grammar tells of a text, rule by rule of the document, at which places a rule that begins at a place may end.
type grammar struct {
	text []rune
}

type rule func(at int) places

func (g grammar) one(may func(r rune) bool) rule {
	return func(at int) places {
		if at < len(g.text) && may(g.text[at]) {
			return 1 << (at + 1)
		}
		return 0
	}
}

func (g grammar) sign(s string) rule {
	return g.one(func(r rune) bool { return strings.ContainsRune(s, r) })
}

func (g grammar) but(s string) rule {
	return g.one(func(r rune) bool { return !strings.ContainsRune(s, r) })
}

func behind(from places, next rule) places {
	var out places
	for ; from != 0; from &= from - 1 {
		out |= next(bits.TrailingZeros64(uint64(from)))
	}
	return out
}

func row(rules ...rule) rule {
	return func(at int) places {
		now := places(1) << at
		for _, r := range rules {
			now = behind(now, r)
		}
		return now
	}
}

func either(rules ...rule) rule {
	return func(at int) places {
		var out places
		for _, r := range rules {
			out |= r(at)
		}
		return out
	}
}

func again(r rule) rule {
	return func(at int) places {
		all := places(1) << at
		for {
			more := all | behind(all, r)
			if more == all {
				return all
			}
			all = more
		}
	}
}

func maybe(r rule) rule {
	return either(row(), r)
}

const (
	signsAlone = `|&~*+?{}.\[]()-^`
	signs      = signsAlone + "ntr"
)

func (g grammar) or(at int) places {
	return row(g.and, again(row(g.sign("|"), g.and)))(at)
}

func (g grammar) and(at int) places {
	return row(g.row, again(row(g.sign("&"), g.row)))(at)
}

func (g grammar) row(at int) places { return again(g.not)(at) }

func (g grammar) not(at int) places {
	return either(row(g.sign("~"), g.not), g.many)(at)
}

func (g grammar) many(at int) places {
	braces := row(g.sign("{"), g.sign("012345"), maybe(row(g.sign(","), maybe(g.sign("012345")))), g.sign("}"))
	return row(g.atom, again(either(g.sign("*+?"), g.rising(braces))))(at)
}

// rising keeps of braces those whose second count is not less than the first.
func (g grammar) rising(braces rule) rule {
	return func(at int) places {
		if to := braces(at); to == 1<<(at+5) && g.text[at+1] > g.text[at+3] {
			return 0
		}
		return braces(at)
	}
}

func (g grammar) atom(at int) places {
	bracket := row(g.sign("["), maybe(g.sign("^")), again(g.item), g.sign("]"))
	group := row(g.sign("("), g.or, g.sign(")"))
	return either(g.but(`|&~*+?{}.\[]()`), g.sign("."), row(g.sign(`\`), g.sign(signs+"dwsDWS")), bracket, group)(at)
}

func (g grammar) item(at int) places {
	return either(g.single, g.span, row(g.sign(`\`), g.sign("dwsDWS")))(at)
}

func (g grammar) single(at int) places {
	return either(g.but(`[]\-^`), row(g.sign(`\`), g.sign(signs)))(at)
}

func (g grammar) span(at int) places {
	to := row(g.single, g.sign("-"), g.single)(at)
	if to == 0 {
		return 0
	}
	dash := bits.TrailingZeros64(uint64(g.single(at)))
	if g.meant(at) > g.meant(dash+1) {
		return 0
	}
	return to
}

// meant is the rune of a single.
func (g grammar) meant(at int) rune {
	if g.text[at] != '\\' {
		return g.text[at]
	}
	switch c := g.text[at+1]; c {
	case 'n':
		return '\n'
	case 't':
		return '\t'
	case 'r':
		return '\r'
	default:
		return c
	}
}

func isPattern(p string) bool {
	g := grammar{[]rune(p)}
	return g.or(0)&(1<<len(g.text)) != 0
}

// goesOn tells whether a text can go on to a pattern: what is open is closed in one of these ways, then come parentheses.
func goesOn(p string) bool {
	for _, closing := range []string{"", "a", "~", "]", "~]", "\U0010ffff]", "5}", "}"} {
		for n := 0; n <= strings.Count(p, "("); n++ {
			if isPattern(p + closing + strings.Repeat(")", n)) {
				return true
			}
		}
	}
	return false
}

// walk looks at every text of at most so many runes of an alphabet that can go on to a pattern, and at those a rune longer that can not.
func walk(t *testing.T, p string, alphabet string, most int) {
	s, e, at := rx.Print(p)
	if isPattern(p) {
		if e != api.OK || at != 0 {
			t.Fatalf("P4: Print(%q) = %q, %d, %d: it is a pattern", p, s, e, at)
		}
		if again, e, _ := rx.Print(s); len(s) <= api.MaxPattern && (again != s || e != api.OK) {
			t.Fatalf("P5: Print(%q) = %q, and of that %q, %d", p, s, again, e)
		}
	} else if s != "" || e != api.ErrPattern || at != len(p) {
		t.Fatalf("P4: Print(%q) = %q, %d, %d, want the place %d", p, s, e, at, len(p))
	}
	if most == 0 {
		return
	}
	for _, c := range alphabet {
		if next := p + string(c); goesOn(next) {
			walk(t, next, alphabet, most-1)
		} else {
			refuse(t, next, len(p))
		}
	}
}

// refuse: that a text is refused at a place, whatever comes behind it.
func refuse(t *testing.T, p string, want int) {
	t.Helper()
	for _, tail := range []string{"", "a", ")", "]", "*(", "é"} {
		if s, e, at := rx.Print(p + tail); s != "" || e != api.ErrPattern || at != want {
			t.Fatalf("P4: Print(%q) = %q, %d, %d, want the place %d", p+tail, s, e, at, want)
		}
	}
}

func TestEveryShortText(t *testing.T) {
	for alphabet, most := range map[string]int{
		"a()~|&*]":    5,
		"aé[]-^\\dn~": 5,
		"a12{},6":     6,
		"(a[b]{0}":    5,
	} {
		walk(t, "", alphabet, most)
	}
}

func TestEveryRuneOfTheLowest(t *testing.T) {
	var alphabet []rune
	for r := range rune(0x100) {
		alphabet = append(alphabet, r)
	}
	for _, start := range []string{"", "a", "~", "(", "a{", "a{2,", "[", "[^", "[a", "[a-", `\`, `[\`, `[a-\`, "[é-", `[ -\`} {
		if !goesOn(start) {
			t.Fatalf("%q does not go on", start)
		}
		walk(t, start, string(alphabet), 1)
	}
}

func TestSpansOfAllSigns(t *testing.T) {
	for _, a := range signs {
		for _, b := range signs {
			p := `[\` + string(a) + `-\` + string(b) + "]"
			if _, e, at := rx.Print(p); isPattern(p) != (e == api.OK) || e != api.OK && (e != api.ErrPattern || at != 5) {
				t.Errorf("P4: Print(%q): %d, %d", p, e, at)
			}
		}
	}
}
