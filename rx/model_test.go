package rx_test

import (
	"math/rand/v2"
	"slices"
	"strings"
	"testing"

	"bramble/api"
	"bramble/rx"
)

// model is a pattern and, word by word of the document, what it matches and what its groups take.
type model struct {
	text   string
	is     func(s []rune) bool
	mixed  bool // whether it has & or ~
	groups int
	take   taker
}

func atomOf(text string, has func(r rune) bool) model {
	return model{text: text, is: func(s []rune) bool { return len(s) == 1 && has(s[0]) }, take: takeNothing}
}

// joined is a model of several parts, but for what it matches and takes.
func joined(parts []model, between string) model {
	var texts []string
	var out model
	for _, p := range parts {
		texts = append(texts, p.text)
		out.mixed = out.mixed || p.mixed
		out.groups += p.groups
	}
	out.text = strings.Join(texts, between)
	return out
}

// oneOf has the runes of a list, noneOf all others.
func oneOf(text string, list string) model {
	return atomOf(text, func(r rune) bool { return strings.ContainsRune(list, r) })
}

func noneOf(text string, list string) model {
	return atomOf(text, func(r rune) bool { return !strings.ContainsRune(list, r) })
}

// fewAtoms is for patterns that match one short text in a few; manyAtoms has something of every kind.
func fewAtoms() []model {
	return []model{oneOf("a", "a"), oneOf("b", "b"), noneOf(".", "\n"), noneOf("[^a]", "a"), oneOf("[]", ""), oneOf("[ab]", "ab"), noneOf("[^]", "")}
}

func manyAtoms() []model {
	return []model{
		oneOf("a", "a"), oneOf("é", "é"), oneOf(`\.`, "."), oneOf(`\n`, "\n"), noneOf(".", "\n"),
		oneOf(`\s`, "\t\n\r "), noneOf(`\S`, "\t\n\r "), oneOf(`[^\D]`, "0123456789"),
		atomOf("[^\x00-\ud7ff]", func(r rune) bool { return r >= 0xe000 }),
		atomOf("[\ud7ff-\ue000\U0010ffff]", func(r rune) bool { return r == 0xd7ff || r == 0xe000 || r == 0x10ffff }),
	}
}

func orOf(parts []model) model {
	out := joined(parts, "|")
	out.is = func(s []rune) bool {
		return slices.ContainsFunc(parts, func(p model) bool { return p.is(s) })
	}
	out.take = takeFirst(parts)
	return out
}

func andOf(parts []model) model {
	if len(parts) == 1 {
		return parts[0]
	}
	out := joined(parts, "&")
	out.is = func(s []rune) bool {
		return !slices.ContainsFunc(parts, func(p model) bool { return !p.is(s) })
	}
	out.mixed = true
	return out
}

func rowOf(parts []model) model {
	out := joined(parts, "")
	out.is = func(s []rune) bool { return isRow(parts, s) }
	out.take = takeRow(parts)
	return out
}

func isRow(parts []model, s []rune) bool {
	if len(parts) == 0 {
		return len(s) == 0
	}
	for cut := range len(s) + 1 {
		if parts[0].is(s[:cut]) && isRow(parts[1:], s[cut:]) {
			return true
		}
	}
	return false
}

func notOf(p model) model {
	return model{text: "~" + p.text, is: func(s []rune) bool { return !p.is(s) }, mixed: true, groups: p.groups}
}

// noEnd is more turns than the texts that are looked at have runes.
const noEnd = 99

func manyOf(p model, sign string, least int, most int) model {
	out := p
	out.text = p.text + sign
	out.is = func(s []rune) bool { return isMany(p, least, most, s) }
	out.take = takeMany(p, least, most)
	return out
}

func isMany(p model, least int, most int, s []rune) bool {
	if least == 0 && len(s) == 0 {
		return true
	}
	if most == 0 {
		return false
	}
	for cut := range len(s) + 1 {
		// A turn that takes nothing only helps where turns are owed.
		if (cut > 0 || least > 0) && p.is(s[:cut]) && isMany(p, max(least-1, 0), most-1, s[cut:]) {
			return true
		}
	}
	return false
}

func groupOf(p model) model {
	out := p
	out.text = "(" + p.text + ")"
	out.groups++
	out.take = takeGroup(p)
	return out
}

// chooser makes models by the rules of the grammar.
type chooser struct {
	source *rand.Rand
	atoms  []model
	plain  bool // whether & and ~ are left out
}

func newChooser(seed uint64, atoms []model) chooser {
	return chooser{source: rand.New(rand.NewPCG(seed, 0)), atoms: atoms}
}

func (c chooser) list(least int, most int, part func(deep int) model, deep int) []model {
	var out []model
	for range least + c.source.IntN(most-least+1) {
		out = append(out, part(deep))
	}
	return out
}

func (c chooser) or(deep int) model  { return orOf(c.list(1, 2, c.and, deep)) }
func (c chooser) row(deep int) model { return rowOf(c.list(0, 3, c.not, deep)) }

func (c chooser) and(deep int) model {
	if c.plain {
		return c.row(deep)
	}
	return andOf(c.list(1, 2, c.row, deep))
}

func (c chooser) not(deep int) model {
	if !c.plain && deep > 0 && c.source.IntN(4) == 0 {
		return notOf(c.not(deep - 1))
	}
	return c.many(deep)
}

func (c chooser) many(deep int) model {
	p := c.atom(deep)
	for c.source.IntN(3) == 0 {
		p = c.times(p)
	}
	return p
}

func (c chooser) times(p model) model {
	switch c.source.IntN(8) {
	case 0:
		return manyOf(p, "*", 0, noEnd)
	case 1:
		return manyOf(p, "+", 1, noEnd)
	case 2:
		return manyOf(p, "?", 0, 1)
	case 3:
		return manyOf(p, "{2}", 2, 2)
	case 4:
		return manyOf(p, "{0}", 0, 0)
	case 5:
		return manyOf(p, "{2,}", 2, noEnd)
	case 6:
		return manyOf(p, "{1,2}", 1, 2)
	default:
		return manyOf(p, "{0,3}", 0, 3)
	}
}

func (c chooser) atom(deep int) model {
	if deep > 0 && c.source.IntN(3) > 0 {
		return groupOf(c.or(deep - 1))
	}
	return c.atoms[c.source.IntN(len(c.atoms))]
}

// chosen is a model whose text is no longer than a pattern may be, together with that pattern.
func (c chooser) chosen(t *testing.T) (model, *rx.Rx) {
	t.Helper()
	for {
		m := c.or(3)
		if len(m.text) <= api.MaxPattern {
			return m, made(t, m.text)
		}
	}
}

func made(t *testing.T, p string) *rx.Rx {
	t.Helper()
	x, e, at := rx.New(p)
	if x == nil || e != api.OK || at != 0 {
		t.Fatalf("P6: New(%q) = %v, %d, %d", p, x, e, at)
	}
	return x
}

// alphabetOf is, rising, the first of each run of runes between which the atoms see no difference: every least text is made of these.
func alphabetOf(atoms []model) []rune {
	var out []rune
	var last string
	for r := range rune(api.MaxRune + 1) {
		if r >= 0xd800 && r <= 0xdfff {
			continue
		}
		now := ""
		for _, a := range atoms {
			if a.is([]rune{r}) {
				now += "1"
			} else {
				now += "0"
			}
		}
		if now != last {
			out = append(out, r)
		}
		last = now
	}
	return out
}

// textsOf is all texts of at most so many runes of an alphabet, the lesser ones first.
func textsOf(alphabet []rune, most int) [][]rune {
	all := [][]rune{{}}
	longest := all
	for range most {
		var longer [][]rune
		for _, s := range longest {
			for _, r := range alphabet {
				longer = append(longer, append(slices.Clone(s), r))
			}
		}
		all = append(all, longer...)
		longest = longer
	}
	return all
}

// leastOf is the first of some texts that has a property.
func leastOf(texts [][]rune, most int, is func(s []rune) bool) (string, bool) {
	for _, s := range texts {
		if len(s) <= most && is(s) {
			return string(s), true
		}
	}
	return "", false
}

func TestModels(t *testing.T) {
	for _, kind := range []struct {
		atoms    []model
		patterns int
	}{{fewAtoms(), 600}, {manyAtoms(), 100}} {
		c := newChooser(1, kind.atoms)
		texts := textsOf(alphabetOf(kind.atoms), api.MaxReach)
		last, lastRx := c.chosen(t)
		for range kind.patterns {
			m, x := c.chosen(t)
			compareMatch(t, m, x, texts)
			compareLeast(t, m, x, texts)
			compareDiffer(t, m, x, last, lastRx, texts)
			last, lastRx = m, x
		}
	}
}

func TestModelsOfLongerTexts(t *testing.T) {
	c := newChooser(2, fewAtoms())
	for range 300 {
		m, x := c.chosen(t)
		var texts [][]rune
		for range 20 {
			s := make([]rune, 4+c.source.IntN(3))
			for i := range s {
				s[i] = []rune("aab\n")[c.source.IntN(4)]
			}
			texts = append(texts, s)
		}
		compareMatch(t, m, x, texts)
	}
}

func compareMatch(t *testing.T, m model, x *rx.Rx, texts [][]rune) {
	t.Helper()
	for _, s := range texts {
		if is, e := x.Match(string(s)); is != m.is(s) || e != api.OK {
			t.Fatalf("P7: %q: Match(%q) = %v, %d", m.text, string(s), is, e)
		}
	}
}

func compareLeast(t *testing.T, m model, x *rx.Rx, texts [][]rune) {
	t.Helper()
	for most := range api.MaxReach + 1 {
		want, wantOK := leastOf(texts, most, m.is)
		if s, ok, e := x.Least(most); s != want || ok != wantOK || e != api.OK {
			t.Fatalf("P8: %q: Least(%d) = %q, %v, %d, want %q, %v", m.text, most, s, ok, e, want, wantOK)
		}
	}
}

func compareDiffer(t *testing.T, m model, x *rx.Rx, n model, y *rx.Rx, texts [][]rune) {
	t.Helper()
	just := func(s []rune) bool { return m.is(s) != n.is(s) }
	for most := range api.MaxReach + 1 {
		want, wantOK := leastOf(texts, most, just)
		for range 2 {
			if s, ok, e := rx.Differ(x, y, most); s != want || ok != wantOK || e != api.OK {
				t.Fatalf("P10: Differ(%q, %q, %d) = %q, %v, %d, want %q, %v", m.text, n.text, most, s, ok, e, want, wantOK)
			}
			x, y = y, x
		}
	}
}
