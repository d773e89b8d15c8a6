package rx_test

import (
	"math"
	"testing"

	"bramble/api"
	"bramble/rx"
)

func TestLeast(t *testing.T) {
	for _, c := range []struct {
		p    string
		most int
		want string
		ok   bool
	}{
		{"~(.*aa.*)&a.*b", 3, "ab", true},
		{"~(.*aa.*)&a.*b", 1, "", false},
		{"", 0, "", true},
		{"[]", 3, "", false},
		{"[]*", 3, "", true},
		{"a", 0, "", false},
		{"a{3}", 2, "", false},
		{"a{3}", 3, "aaa", true},
		{"a{4}", 3, "", false},
		{"zz|aaa", 3, "zz", true},
		{"aaa|zz", 2, "zz", true},
		{"zz|za|az", 2, "az", true},
		{"b.|a[^]", 2, "a\x00", true},
		{".", 1, "\x00", true},
		{"[^\x00]", 1, "\x01", true},
		{"[^\x00-\t]", 1, "\n", true},
		{"[^\x00-\t]&.", 1, "\v", true},
		{"[^\x00-\ud7ff]", 1, "\ue000", true},
		{"[^\x00-\ud7fe]", 1, "\ud7ff", true},
		{"[^\x00-\U0010fffe]", 1, "\U0010ffff", true},
		{"[^\x00-\U0010ffff]", 1, "", false},
		{"é|ê", 1, "é", true},
		{`\w&\D`, 1, "A", true},
		{"~()", 3, "\x00", true},
		{"~(|[^])", 3, "\x00\x00", true},
		{"~([^]{0,2})", 3, "\x00\x00\x00", true},
		{"~([^]{0,3})", 3, "", false},
		{"~(.*)", 3, "\n", true},
		{"~(.?)~(.?)", 1, "", false},
		{"~(.?)~(.?)", 2, "\n\n", true},
		{"(b|ab){2}", 3, "bb", true},
		{"(b|ab){2}&a.*", 3, "abb", true},
		{"~a&~b&[a-c]", 1, "c", true},
	} {
		if s, ok, e := made(t, c.p).Least(c.most); s != c.want || ok != c.ok || e != api.OK {
			t.Errorf("P8: %q: Least(%d) = %q, %v, %d, want %q, %v", c.p, c.most, s, ok, e, c.want, c.ok)
		}
	}
}

// outOfReach is numbers of runes that may not be asked for.
func outOfReach() []int {
	return []int{-1, 4, 5, -3, 256, 1 << 32, math.MaxInt, math.MinInt}
}

func TestLeastRefuses(t *testing.T) {
	for _, p := range []string{"", "a", "[]"} {
		for _, most := range outOfReach() {
			if s, ok, e := made(t, p).Least(most); s != "" || ok || e != api.ErrReach {
				t.Errorf("P8: %q: Least(%d) = %q, %v, %d", p, most, s, ok, e)
			}
		}
	}
}

func TestDiffer(t *testing.T) {
	for _, c := range []struct {
		p, q string
		most int
		want string
		ok   bool
	}{
		{"a*", "a{0,2}", 3, "aaa", true},
		{"a*", "a{0,2}", 2, "", false},
		{"", "", 3, "", false},
		{"", "[]", 0, "", true},
		{"a", "b", 0, "", false},
		{"a", "b", 1, "a", true},
		{"a|b|c", "[a-c]", 3, "", false},
		{"a|b|d", "[a-d]", 3, "c", true},
		{"a?", "|a", 3, "", false},
		{"a??", "a?", 3, "", false},
		{"(ab)*a", "a(ba)*", 3, "", false},
		{"(a*b*)*", "(a|b)*", 3, "", false},
		{"a*b*", "(a|b)*", 3, "ba", true},
		{"a{4}", "a{5}", 3, "", false},
		{"~(a&b)", "~a|~b", 3, "", false},
		{"~(a|b)", "~a&~b", 3, "", false},
		{"~ab", "~(ab)", 3, "", true},
		{"~~a", "a", 3, "", false},
		{"~a", "a", 3, "", true},
		{"x~a", "xa", 3, "x", true},
		{".", "[^]", 3, "\n", true},
		{"a.b", "a[^]b", 3, "a\nb", true},
		{"a.b", "a[^]b", 2, "", false},
		{"[^\x00-\ud7ff]", "[^\x00-\ue000]", 1, "\ue000", true},
		{"[^\U0010ffff]", "[^]", 1, "\U0010ffff", true},
		{`\w`, `[\d_a-zA-Z]`, 3, "", false},
		{`\s`, `[ \n\r]`, 3, "\t", true},
		{"(a|aa){2}", "a{2,4}", 3, "", false},
	} {
		x, y := made(t, c.p), made(t, c.q)
		for range 2 {
			if s, ok, e := rx.Differ(x, y, c.most); s != c.want || ok != c.ok || e != api.OK {
				t.Errorf("P10: Differ(%q, %q, %d) = %q, %v, %d, want %q, %v", c.p, c.q, c.most, s, ok, e, c.want, c.ok)
			}
			x, y = y, x
		}
		if s, ok, e := rx.Differ(x, x, c.most); s != "" || ok || e != api.OK {
			t.Errorf("P10: Differ(%q, itself, %d) = %q, %v, %d", c.p, c.most, s, ok, e)
		}
	}
}

func TestDifferRefuses(t *testing.T) {
	x, y := made(t, "a"), made(t, "b")
	for _, most := range append(outOfReach(), 0, 3) {
		for _, pair := range [][2]*rx.Rx{{x, nil}, {nil, x}, {nil, nil}} {
			if s, ok, e := rx.Differ(pair[0], pair[1], most); s != "" || ok || e != api.ErrNil {
				t.Errorf("P1, P10: Differ(%v, %v, %d) = %q, %v, %d", pair[0], pair[1], most, s, ok, e)
			}
		}
	}
	for _, most := range outOfReach() {
		if s, ok, e := rx.Differ(x, y, most); s != "" || ok || e != api.ErrReach {
			t.Errorf("P10: Differ(.., %d) = %q, %v, %d", most, s, ok, e)
		}
	}
	if s, ok, e := rx.Differ(x, new(rx.Rx), 3); s != "a" || !ok || e != api.OK {
		t.Errorf("P1: Differ from what New did not make = %q, %v, %d", s, ok, e)
	}
}

// TestWhatFollows: P11, as far as it speaks of Print, Match, Least and Differ.
func TestWhatFollows(t *testing.T) {
	atoms := fewAtoms()
	c := newChooser(3, atoms)
	texts := textsOf(alphabetOf(atoms), api.MaxReach)
	for range 300 {
		m, x := c.chosen(t)
		if one, _, _ := rx.Print(m.text); len(one) <= api.MaxPattern {
			follows(t, m.text, x, one, false, texts)
		}
		if len(m.text)+len("~()") <= api.MaxPattern {
			follows(t, m.text, x, "("+m.text+")", false, texts)
			follows(t, m.text, x, "~("+m.text+")", true, texts)
		}
	}
}

// follows: that another pattern matches the same as x, or just what x does not.
func follows(t *testing.T, p string, x *rx.Rx, q string, turned bool, texts [][]rune) {
	t.Helper()
	y := made(t, q)
	for _, s := range texts {
		is, _ := x.Match(string(s))
		if is2, _ := y.Match(string(s)); (is != is2) != turned {
			t.Fatalf("P11: %q and %q at %q: %v, %v", p, q, string(s), is, is2)
		}
	}
	if s, ok, _ := rx.Differ(x, y, api.MaxReach); s != "" || ok != turned {
		t.Fatalf("P11: Differ(%q, %q) = %q, %v", p, q, s, ok)
	}
}
