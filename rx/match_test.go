package rx_test

import (
	"slices"
	"strings"
	"sync"
	"testing"
	"time"

	"bramble/api"
	"bramble/rx"
)

func TestNewRefusesAsPrintDoes(t *testing.T) {
	for p, want := range map[string]struct {
		e  api.Errno
		at int
	}{
		"a)": {api.ErrPattern, 1}, "(a": {api.ErrPattern, 2}, "a{6}": {api.ErrPattern, 2}, "*": {api.ErrPattern, 0}, "é~": {api.ErrPattern, 3}, "[b-a]": {api.ErrPattern, 3},
		strings.Repeat("a", 61): {api.ErrLong, 0}, strings.Repeat("\xff", 61): {api.ErrLong, 0}, strings.Repeat("(", 61): {api.ErrLong, 0},
		"é\xff": {api.ErrUTF, 2}, "*\x80": {api.ErrUTF, 1}, "\xed\xa0\x80": {api.ErrUTF, 0},
		nested(9): {api.ErrDeep, 0}, strings.Repeat("~", 9) + "a": {api.ErrDeep, 0}, nested(9) + ")": {api.ErrPattern, 18},
	} {
		if x, e, at := rx.New(p); x != nil || e != want.e || at != want.at {
			t.Errorf("P6: New(%q) = %v, %d, %d, want %d, %d", p, x, e, at, want.e, want.at)
		}
	}
	for _, p := range []string{"", "a", strings.Repeat("a", 60), nested(8), strings.Repeat("~", 8) + "a", "\ufffd", `\d[^\w]`} {
		made(t, p)
	}
}

// FuzzNew: that New refuses what Print refuses, and that what it takes never panics and matches as its one form does.
func FuzzNew(f *testing.F) {
	for _, p := range []string{"", "a", `~(.*aa.*)&a.*b`, `((a)|b)*`, `[^\d\-a-é]{2,}`, "\xff", "a{2,1}", nested(9), "a{0,5}{0,5}"} {
		f.Add(p, "ab\n")
	}
	f.Fuzz(func(t *testing.T, p string, s string) {
		x, e, at := rx.New(p)
		one, e2, at2 := rx.Print(p)
		if e != e2 || at != at2 || (x != nil) != (e == api.OK) {
			t.Fatalf("P6: New(%q) = %v, %d, %d, Print tells %d, %d", p, x, e, at, e2, at2)
		}
		if e != api.OK {
			return
		}
		is, es := x.Match(s)
		if _, e := x.Groups(s); e != api.ErrKind && (e == api.OK) != is {
			t.Errorf("P9: %q: Groups(%q) tells %d, Match %v", p, s, e, is)
		}
		least, ok, _ := x.Least(api.MaxReach)
		if found, _ := x.Match(least); ok && !found || !ok && least != "" {
			t.Errorf("P8: %q: Least tells %q, %v", p, least, ok)
		}
		y, e, _ := rx.New(one)
		if e != api.OK {
			return
		}
		if is2, es2 := y.Match(s); is2 != is || es2 != es {
			t.Errorf("P11: %q and %q at %q: %v, %v", p, one, s, is, is2)
		}
		l, eg := x.Groups(s)
		if l2, eg2 := y.Groups(s); !slices.Equal(l, l2) || eg != eg2 {
			t.Errorf("P11: %q and %q at %q: Groups = %v, %d, and %v, %d", p, one, s, l, eg, l2, eg2)
		}
		if d, ok, _ := rx.Differ(x, y, api.MaxReach); ok {
			t.Errorf("P11: %q and %q differ by %q", p, one, d)
		}
	})
}

func TestMatch(t *testing.T) {
	for _, c := range []struct {
		p       string
		yes, no []string
	}{
		{`~(.*aa.*)&a.*b`, []string{"ab", "abab"}, []string{"aab", "", "a", "b", "abaab"}},
		{"", []string{""}, []string{"a", "\n"}},
		{"|", []string{""}, []string{"a"}},
		{"&", []string{""}, []string{"a"}},
		{"()", []string{""}, []string{"a"}},
		{"é", []string{"é"}, []string{"", "e", "éé", "\u0301"}},
		{".", []string{"a", "\x00", "\r", "\ufffd", "\U0010ffff"}, []string{"", "\n", "aa"}},
		{"[^]", []string{"a", "\n", "\ud7ff", "\ue000"}, []string{"", "aa"}},
		{"[]", nil, []string{"", "a"}},
		{"[]*", []string{""}, []string{"a"}},
		{`[a-c\dx]`, []string{"a", "b", "c", "0", "9", "x"}, []string{"d", "w", "-", `\`, "ab"}},
		{`[^a-c\dx]`, []string{"d", "\n", "é"}, []string{"a", "b", "5", "x", ""}},
		{`\w\W\s\S\d\D`, []string{"_- a0a", "Zé\n\v9\n"}, []string{"__ a0a", "_- a0", "_-\va0a"}},
		{`\n\t\r\-\^\|`, []string{"\n\t\r-^|"}, []string{"ntr-^|"}},
		{"a{2}", []string{"aa"}, []string{"", "a", "aaa"}},
		{"a{2,}", []string{"aa", "aaa", strings.Repeat("a", 40)}, []string{"", "a", "aab"}},
		{"a{1,3}", []string{"a", "aa", "aaa"}, []string{"", "aaaa"}},
		{"a{0}", []string{""}, []string{"a"}},
		{"(a|b){0,2}", []string{"", "a", "b", "ab", "bb"}, []string{"aaa", "c"}},
		{"a{2}{3}", []string{"aaaaaa"}, []string{"aaaaa", "aaaaaaa"}},
		{"(aa|aaa){2}", []string{"aaaa", "aaaaa", "aaaaaa"}, []string{"aaa", "aaaaaaa"}},
		{"(a?){5}", []string{"", "a", "aaaaa"}, []string{"aaaaaa"}},
		{"a|b&c", []string{"a"}, []string{"b", "c", "bc"}},
		{"ab|cd&c.", []string{"ab", "cd"}, []string{"abd", "acd", "ce"}},
		{"~ab", []string{"b", "aab", "bb", "cb"}, []string{"ab", "", "a"}},
		{"~(ab)", []string{"", "a", "b", "aab"}, []string{"ab"}},
		{"~a*", []string{"b", "ab", "ba"}, []string{"", "a", "aaa"}},
		{"~~a", []string{"a"}, []string{"", "b", "aa"}},
		{"~a~a", []string{"", "aa", "aaa", "b", "ab"}, []string{"a"}},
		{"(~a)*", []string{"", "aa", "b", "ba"}, []string{"a"}},
		{"(~(a|b|)&..)*", []string{"", "ab", "abab"}, []string{"a", "aba"}},
		{"~(a|b)&~(aa|bb)&[ab]*", []string{"", "ab", "ba", "aaa"}, []string{"a", "b", "aa", "bb", "c"}},
		{"x~()y", []string{"xay", "xxy", "xyy"}, []string{"xy", "x", "y", "xayz"}},
		{"~[]", []string{"", "a", "\n", strings.Repeat("a", 40)}, nil},
		{"~[^]", []string{"", "aa"}, []string{"a"}},
	} {
		x := made(t, c.p)
		for _, s := range c.yes {
			if is, e := x.Match(s); !is || e != api.OK {
				t.Errorf("P7: %q: Match(%q) = %v, %d", c.p, s, is, e)
			}
		}
		for _, s := range c.no {
			if is, e := x.Match(s); is || e != api.OK {
				t.Errorf("P7: %q: Match(%q) = %v, %d", c.p, s, is, e)
			}
		}
	}
}

func TestMatchRefuses(t *testing.T) {
	for _, p := range []string{"~[]", "[]", ".*", "\ufffd*"} {
		x := made(t, p)
		for s, want := range map[string]api.Errno{
			strings.Repeat("a", 41):            api.ErrLong,
			strings.Repeat("\xff", 41):         api.ErrLong,
			strings.Repeat("é", 20) + "a":      api.ErrLong,
			strings.Repeat("a", 1000000):       api.ErrLong,
			strings.Repeat("\xff", 40):         api.ErrUTF,
			strings.Repeat("a", 39) + "\xc3":   api.ErrUTF,
			"\xff":                             api.ErrUTF,
			"a\x80":                            api.ErrUTF,
			"\xc0\x80":                         api.ErrUTF,
			"\xed\xa0\x80":                     api.ErrUTF,
			"\xf4\x90\x80\x80":                 api.ErrUTF,
			strings.Repeat("\ufffd", 13):       api.OK,
			strings.Repeat("a", 40):            api.OK,
			strings.Repeat("é", 20):            api.OK,
			strings.Repeat("\U0010ffff", 10):   api.OK,
			"\xed\x9f\xbf\xee\x80\x80\n\x00 é": api.OK,
		} {
			if is, e := x.Match(s); e != want || is && e != api.OK {
				t.Errorf("P1, P7: %q: Match(%q) = %v, %d, want %d", p, s, is, e, want)
			}
		}
	}
}

// soon: that something ends: what doubles with each part of a pattern would not, for longer than anyone waits.
func soon(t *testing.T, what string, run func()) {
	t.Helper()
	done := make(chan struct{})
	go func() {
		defer close(done)
		run()
	}()
	select {
	case <-done:
	case <-time.After(time.Minute):
		t.Fatalf("P1: %s does not end", what)
	}
}

// heavy is patterns at which a plain search would look at ever more ways.
func heavy() []string {
	return []string{
		"a" + strings.Repeat("{0,5}", 11), "a" + strings.Repeat("{2,5}", 11), "a" + strings.Repeat("*", 59), "a" + strings.Repeat("?", 59), "a" + strings.Repeat("+", 59), "a" + strings.Repeat("?*", 29),
		strings.Repeat("a?", 30), strings.Repeat("a*", 30), strings.Repeat("~a", 30), strings.Repeat("~.", 30), "(" + strings.Repeat("a?", 28) + ")*",
		"(((((((a*)*a)*a)*a)*a)*a)*a)*b", "(((((((a?){5}){5}){5}){5}){5}){5}){5}", "~(a~(a~(a~(a*)a*)a*)a*)", "~(~(~(~(.*a).*b).*c).*d)", "(a|aa|aaa|aaaa|aaaaa|aaaaaa|aaaaaaa|aaaaaaaa)*",
		"~(ABCDEFGHIJKLMNOPQRSTUVWXYZabcdefghijklmnopqrstuvwxyz)", "~(abcdefghijklmnopqrstuvwxyz0123456789 ABCDEFGHIJKL)&~~~()",
		"(.*a.*&.*b.*&.*c.*&.*d.*&.*e.*&.*f.*&.*g.*)*", "A?B?C?D?E?F?G?H?I?J?K?L?M?N?O?P?Q?R?S?T?U?V?W?X?Y?Z?&~.*", "~(.*a.b.*|.*c.d.*|.*e.f.*|.*g.h.*|.*i.j.*)&[]",
	}
}

func TestHeavyPatternsEnd(t *testing.T) {
	texts := []string{strings.Repeat("a", 40), strings.Repeat("a", 39) + "c", strings.Repeat("ab", 20)}
	for _, p := range heavy() {
		x := made(t, p)
		for _, s := range texts {
			soon(t, "Match at "+p, func() { x.Match(s) })
		}
		soon(t, "Least at "+p, func() { x.Least(api.MaxReach) })
		for _, q := range heavy() {
			y := made(t, q)
			soon(t, "Differ at "+p+" and "+q, func() { rx.Differ(x, y, api.MaxReach) })
		}
	}
	if is, e := made(t, heavy()[0]).Match(texts[0]); !is || e != api.OK {
		t.Errorf("P7: %v, %d", is, e)
	}
	if is, e := made(t, heavy()[1]).Match(texts[0]); is || e != api.OK {
		t.Errorf("P7: %v, %d", is, e)
	}
}

func TestAnswersHangOnThePatternAlone(t *testing.T) {
	x, y := made(t, `(\d|a)*&~(.*aa.*)`), made(t, "b*")
	ask := func() string {
		var out []string
		for _, s := range []string{"", "a", "a1a", "aa", "b", "\xff", strings.Repeat("a", 41)} {
			is, e := x.Match(s)
			out = append(out, s, map[bool]string{true: "yes", false: "no"}[is], string(rune('0'+e)))
		}
		least, _, _ := x.Least(3)
		differ, _, _ := rx.Differ(x, y, 3)
		return strings.Join(append(out, least, differ), " ")
	}
	want := ask()
	var all sync.WaitGroup
	for range 8 {
		all.Go(func() {
			for range 50 {
				if got := ask(); got != want {
					t.Errorf("P2: %q, then %q", want, got)
				}
			}
		})
	}
	all.Wait()
}
