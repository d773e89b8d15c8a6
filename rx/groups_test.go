package rx_test

import (
	"slices"
	"strings"
	"sync"
	"testing"

	"bramble/api"
	"bramble/rx"
)

// taker takes a part of a text, word by word of the document. It is handed the part, where it begins in the text, and two places for each group that is in the pattern.
type taker func(s []rune, from int, groups []int)

func takeNothing(s []rune, from int, groups []int) {}

func takeFirst(parts []model) taker {
	return func(s []rune, from int, groups []int) {
		for _, p := range parts {
			if p.is(s) {
				p.take(s, from, groups[:2*p.groups])
				return
			}
			groups = groups[2*p.groups:]
		}
	}
}

func takeRow(parts []model) taker {
	return func(s []rune, from int, groups []int) {
		if len(parts) == 0 {
			return
		}
		p, others := parts[0], parts[1:]
		cut := longest(s, func(first []rune, left []rune) bool { return p.is(first) && isRow(others, left) })
		p.take(s[:cut], from, groups[:2*p.groups])
		takeRow(others)(s[cut:], from+cut, groups[2*p.groups:])
	}
}

func takeMany(p model, least int, most int) taker {
	return func(s []rune, from int, groups []int) {
		if least == 0 && len(s) == 0 {
			return
		}
		cut := longest(s, func(first []rune, left []rune) bool {
			return (least > 0 || len(first) > 0) && p.is(first) && isMany(p, max(least-1, 0), most-1, left)
		})
		p.take(s[:cut], from, groups)
		takeMany(p, max(least-1, 0), most-1)(s[cut:], from+cut, groups)
	}
}

func takeGroup(p model) taker {
	return func(s []rune, from int, groups []int) {
		groups[0], groups[1] = from, from+len(s)
		p.take(s, from, groups[2:])
	}
}

// longest is the length of the longest beginning of a text that fits, together with what is left.
func longest(s []rune, fits func(first []rune, left []rune) bool) int {
	for cut := len(s); cut >= 0; cut-- {
		if fits(s[:cut], s[cut:]) {
			return cut
		}
	}
	panic("the text does not match")
}

// groupsOf is what Groups has to answer.
func groupsOf(m model, s []rune) ([]int, api.Errno) {
	switch {
	case m.mixed:
		return nil, api.ErrKind
	case !m.is(s):
		return nil, api.ErrNone
	}
	groups := slices.Repeat([]int{-1}, 2*m.groups)
	m.take(s, 0, groups)
	for i, at := range groups {
		if at >= 0 {
			groups[i] = len(string(s[:at]))
		}
	}
	return groups, api.OK
}

func compareGroups(t *testing.T, m model, x *rx.Rx, s []rune) []int {
	t.Helper()
	want, wantE := groupsOf(m, s)
	got, e := x.Groups(string(s))
	if !slices.Equal(got, want) || e != wantE {
		t.Fatalf("P9: %q: Groups(%q) = %v, %d, want %v, %d", m.text, string(s), got, e, want, wantE)
	}
	return got
}

func TestModelsOfGroups(t *testing.T) {
	few := []model{oneOf("a", "a"), oneOf("b", "b"), noneOf(".", "\n"), oneOf("é", "é")}
	for _, kind := range []struct {
		atoms    []model
		alphabet string
		plain    bool
		most     int
		patterns int
	}{
		{few[:3], "ab", true, 5, 3000},
		{few[:1], "a", true, 8, 1000},
		{few, "aé", true, 4, 500},
		{few[:3], "ab", false, 3, 500},
	} {
		c := newChooser(3, kind.atoms)
		c.plain = kind.plain
		texts := textsOf([]rune(kind.alphabet), kind.most)
		found := 0
		for range kind.patterns {
			m, x := c.chosen(t)
			for _, s := range texts {
				// A group that took no more than the first rune tells little.
				if slices.Max(append(compareGroups(t, m, x, s), 0)) > 1 {
					found++
				}
			}
		}
		if kind.plain && found < kind.patterns {
			t.Errorf("only %d texts with groups at %d patterns", found, kind.patterns)
		}
	}
}

func TestGroups(t *testing.T) {
	for _, c := range []struct {
		p, s string
		want []int
	}{
		// no groups
		{"", "", nil},
		{"a*b|c", "aab", nil},
		{`\(\)[()]`, "())", nil},
		// the document's examples
		{"(a|ab)(c|bcd)(d*)", "abcd", []int{0, 2, 2, 3, 3, 4}},
		{"((a)|b)*", "ab", []int{1, 2, 0, 1}},
		// numbered by the opening parentheses
		{"((a)(b(c)))(d)", "abcd", []int{0, 3, 0, 1, 1, 3, 2, 3, 3, 4}},
		{"((((((((a))))))))", "a", []int{0, 1, 0, 1, 0, 1, 0, 1, 0, 1, 0, 1, 0, 1, 0, 1}},
		{"(a)|(b)|((c))", "c", []int{-1, -1, -1, -1, 0, 1, 0, 1}},
		// places are those of bytes
		{"(é)(\U0010ffff)(.)()", "é\U0010ffffx", []int{0, 2, 2, 6, 6, 7, 7, 7}},
		{"a(.)*", "a€é", []int{4, 6}},
		// the first one that matches all of the part
		{"(a)|(.)", "a", []int{0, 1, -1, -1}},
		{"(.)|(a)", "a", []int{0, 1, -1, -1}},
		{"((a)|(ab))(b|)", "ab", []int{0, 2, -1, -1, 0, 2, 2, 2}},
		{"(a|ab)(b|)", "ab", []int{0, 2, 2, 2}},
		{"|()", "", []int{-1, -1}},
		{"()|", "", []int{0, 0}},
		{"(a?)|(a*)|(b)", "aa", []int{-1, -1, 0, 2, -1, -1}},
		// a row: the longest beginning behind which the others match what is left
		{"(a*)(a*)", "aa", []int{0, 2, 2, 2}},
		{"(a*)(a+)", "aaa", []int{0, 2, 2, 3}},
		{"(a?)(ab)?(b?)", "ab", []int{0, 1, -1, -1, 1, 2}},
		{"(.*)(b.*)(b.*)", "abbab", []int{0, 2, 2, 4, 4, 5}},
		{"(|a)(|a)", "a", []int{0, 1, 1, 1}},
		{"(a{0,2})(a{2})(a*)", "aaa", []int{0, 1, 1, 3, 3, 3}},
		// many times: at least none
		{"(a)*", "", []int{-1, -1}},
		{"(a*)*", "", []int{-1, -1}},
		{"(a?)?", "", []int{-1, -1}},
		{"()*", "", []int{-1, -1}},
		{"()?", "", []int{-1, -1}},
		{"(a){0}", "", []int{-1, -1}},
		{"(){0,5}", "", []int{-1, -1}},
		{"(a|b|)*", "ab", []int{1, 2}},
		{"(a*)*", "aaa", []int{0, 3}},
		{"(a{1,2})*", "aaa", []int{2, 3}},
		{"(a{1,2}){0,2}", "aaa", []int{2, 3}},
		{"(a{1,3}|b){0,2}", "aab", []int{2, 3}},
		{"(a|ab|b){0,2}", "aba", []int{2, 3}},
		{"(aa|aaa)*", "aaaa", []int{2, 4}},
		// at least some: the turns that are owed may be empty
		{"(a*)+", "", []int{0, 0}},
		{"(a*)+", "aa", []int{0, 2}},
		{"(a*){2}", "aa", []int{2, 2}},
		{"(a*){2,}", "aa", []int{2, 2}},
		{"(a*){5}", "", []int{0, 0}},
		{"(a?){3}", "aa", []int{2, 2}},
		{"(a?){2}", "aa", []int{1, 2}},
		{"(a?){2,5}", "aaa", []int{2, 3}},
		{"(|a){2,3}", "a", []int{1, 1}},
		{"(a|b?){3}c", "abc", []int{2, 2}},
		{"(){3}", "", []int{0, 0}},
		{"(a{1,2}){2}", "aaa", []int{2, 3}},
		{"(a{1,3}){2,}", "aaaa", []int{3, 4}},
		{"(a{1,3}){2,}", "aaaaaaa", []int{6, 7}},
		{"(a){5,}", "aaaaaaa", []int{6, 7}},
		{"(a)*{2}", "aa", []int{1, 2}},
		{"(a*){2}*", "aa", []int{2, 2}},
		{"(a*)*{2}", "aa", []int{0, 2}},
		{"(a){2}{2}", "aaaa", []int{3, 4}},
		// the last time counts, and what was taken inside before stays
		{"(a|(b)|(c))*", "bca", []int{2, 3, 0, 1, 1, 2}},
		{"((a)|(b)){3}", "aba", []int{2, 3, 2, 3, 1, 2}},
		{"((a)?b)*", "abb", []int{2, 3, 0, 1}},
		{"((a*)(b)*)*", "aba", []int{2, 3, 2, 3, 1, 2}},
		{"((a)|)+", "a", []int{0, 1, 0, 1}},
		{"((a)|){2}", "a", []int{1, 1, 0, 1}},
		{"((a)*|b){2}", "ab", []int{1, 2, 0, 1}},
		{"((a|())*b)*", "aabb", []int{3, 4, 1, 2, -1, -1}},
	} {
		if l, e := made(t, c.p).Groups(c.s); !slices.Equal(l, c.want) || e != api.OK {
			t.Errorf("P9: %q: Groups(%q) = %v, %d, want %v", c.p, c.s, l, e, c.want)
		}
	}
}

func TestGroupsRefuses(t *testing.T) {
	long, broken := strings.Repeat("\xff", 41), "a\xff"
	for _, c := range []struct {
		p, s string
		want api.Errno
	}{
		{"(a)", long, api.ErrLong},
		{"(a)&b", long, api.ErrLong},
		{"~(a)", strings.Repeat("a", 41), api.ErrLong},
		{".*", strings.Repeat("é", 20) + "a", api.ErrLong},
		{".*", strings.Repeat("a", 1000000), api.ErrLong},
		{"(a)", broken, api.ErrUTF},
		{"(a)&b", broken, api.ErrUTF},
		{"~(a)", broken, api.ErrUTF},
		{".*", "\xed\xa0\x80", api.ErrUTF},
		{".*", strings.Repeat("a", 39) + "\xc3", api.ErrUTF},
		{"a&b", "a", api.ErrKind},
		{"a&a", "a", api.ErrKind},
		{"&", "", api.ErrKind},
		{"~a", "b", api.ErrKind},
		{"~a", "a", api.ErrKind},
		{"a|b|~c", "a", api.ErrKind},
		{"a(b(c(d(&)?)?)?)?", "a", api.ErrKind},
		{"a(b(c(~d){0})?)?", "a", api.ErrKind},
		{"(~~a)*", "", api.ErrKind},
		{"(a)", "", api.ErrNone},
		{"(a)", "aa", api.ErrNone},
		{"(a)", "é", api.ErrNone},
		{"", "a", api.ErrNone},
		{"([])", "", api.ErrNone},
		{"(a{2})*", "aaa", api.ErrNone},
		{`(\&\~)|([&~])`, "", api.ErrNone},
		{`(\&\~)|([&~])`, "&~", api.OK},
		{`(\&\~)|([&~])`, "~", api.OK},
		{".*", strings.Repeat("a", 40), api.OK},
		{".*", strings.Repeat("é", 20), api.OK},
	} {
		if l, e := made(t, c.p).Groups(c.s); e != c.want || e != api.OK && len(l) > 0 {
			t.Errorf("P1, P9: %q: Groups(%q) = %v, %d, want %d", c.p, c.s, l, e, c.want)
		}
	}
}

// TestGroupsAtManyTurns: patterns at which as many turns are owed as no one could go through, or as many ways are open.
func TestGroupsAtManyTurns(t *testing.T) {
	long := strings.Repeat("a", 40)
	all := func(groups int, from int, to int) []int { return slices.Repeat([]int{from, to}, groups) }
	for _, c := range []struct {
		p, s string
		want []int
	}{
		{"()" + strings.Repeat("{5}", 19), "", all(1, 0, 0)},
		{"()" + strings.Repeat("{5,}", 14), "", all(1, 0, 0)},
		{"(a?)" + strings.Repeat("{5}", 18), "aaa", all(1, 3, 3)},
		{"(a?)" + strings.Repeat("{5}", 18), long, all(1, 40, 40)},
		{"(a?)" + strings.Repeat("{4,5}", 11), long, all(1, 40, 40)},
		{"(a|)" + strings.Repeat("{5,}", 14), long, all(1, 40, 40)},
		{"(a)" + strings.Repeat("*", 57), long, all(1, 39, 40)},
		{"(a?)" + strings.Repeat("+", 56), long, all(1, 39, 40)},
		{"(a?)" + strings.Repeat("?*", 28), long, all(1, 39, 40)},
		{"(a)" + strings.Repeat("{0,5}", 11), long, all(1, 39, 40)},
		{"((((((((a?){5}){5}){5}){5}){5}){5}){5}){5}", long, all(8, 40, 40)},
		{"((((((((a*)*)*)*)*)*)*)*)*", long, all(8, 0, 40)},
		{"((((((((a+)+)+)+)+)+)+)+)+", long, all(8, 0, 40)},
		{strings.Repeat("(a?)", 15), "aa", append([]int{0, 1, 1, 2}, all(13, 2, 2)...)},
		{strings.Repeat("(a*)", 15), long, append([]int{0, 40}, all(14, 40, 40)...)},
		{"(" + strings.Repeat("(a*)", 14) + ")*", long, append([]int{0, 40, 0, 40}, all(13, 40, 40)...)},
	} {
		x := made(t, c.p)
		soon(t, "Groups at "+c.p, func() {
			if l, e := x.Groups(c.s); !slices.Equal(l, c.want) || e != api.OK {
				t.Errorf("P9: %q: Groups(%q) = %v, %d, want %v", c.p, c.s, l, e, c.want)
			}
		})
	}
	for _, p := range heavy() {
		x := made(t, p)
		for _, s := range []string{long, long[1:] + "b", strings.Repeat("ab", 20), ""} {
			soon(t, "Groups at "+p, func() { x.Groups(s) })
		}
	}
}

// TestGroupsFollow: that a pattern in parentheses takes all that matches, and what is in it takes what it took without them; and that the one form of a pattern takes the same.
func TestGroupsFollow(t *testing.T) {
	atoms := []model{oneOf("a", "a"), oneOf("é", "é"), noneOf(".", "\n"), oneOf("[a-bé]", "abé"), oneOf(`\w`, "ab")}
	c := newChooser(4, atoms)
	c.plain = true
	texts := textsOf([]rune("abé"), 3)
	for range 500 {
		m, x := c.chosen(t)
		if len(m.text) > api.MaxPattern-2 {
			continue
		}
		whole := made(t, "("+m.text+")")
		one, _, _ := rx.Print(m.text)
		y, e, _ := rx.New(one)
		for _, s := range texts {
			l, eL := x.Groups(string(s))
			if is, _ := x.Match(string(s)); is != (eL == api.OK) {
				t.Fatalf("P9: %q: Groups(%q) = %v, %d", m.text, string(s), l, eL)
			}
			want := l
			if eL == api.OK {
				want = append([]int{0, len(string(s))}, l...)
			}
			if all, eAll := whole.Groups(string(s)); !slices.Equal(all, want) || eAll != eL {
				t.Fatalf("P11: (%s): Groups(%q) = %v, %d, without the parentheses %v, %d", m.text, string(s), all, eAll, l, eL)
			}
			if e != api.OK {
				continue
			}
			if same, eSame := y.Groups(string(s)); !slices.Equal(same, l) || eSame != eL {
				t.Fatalf("P11: %q, %q: Groups(%q) = %v, %d, then %v, %d", m.text, one, string(s), l, eL, same, eSame)
			}
		}
	}
}

func TestGroupsAreNewMemory(t *testing.T) {
	for p, s := range map[string]string{"": "", "()": "", "(a)|b": "b", "((a)|b)*": "ab", "(.)(.)(.)(.)(.)": "abcde"} {
		x := made(t, p)
		first, _ := x.Groups(s)
		want := slices.Clone(first)
		second, _ := x.Groups(s)
		for i := range second[:cap(second)] {
			second[:cap(second)][i] = 77
		}
		if third, e := x.Groups(s); !slices.Equal(first, want) || !slices.Equal(third, want) || e != api.OK {
			t.Errorf("P2: %q: Groups(%q) = %v, then %v, %v", p, s, want, first, third)
		}
		if is, e := x.Match(s); !is || e != api.OK {
			t.Errorf("P2: %q: Match(%q) = %v, %d", p, s, is, e)
		}
	}
}

func TestGroupsHangOnThePatternAlone(t *testing.T) {
	x := made(t, "((a+)|(b)?c)*")
	texts := []string{"", "a", "bc", "aabc", "caa", "b", "\xff"}
	ask := func() []int {
		var out []int
		for _, s := range texts {
			l, e := x.Groups(s)
			out = append(append(out, l...), int(e))
		}
		return out
	}
	want := ask()
	var all sync.WaitGroup
	for range 8 {
		all.Go(func() {
			for range 50 {
				if got := ask(); !slices.Equal(got, want) {
					t.Errorf("P2: %v, then %v", want, got)
				}
			}
		})
	}
	all.Wait()
}
