package rx_test

import (
	"strings"
	"testing"
	"unicode/utf8"

	"bramble/api"
	"bramble/rx"
)

func TestOneForm(t *testing.T) {
	for p, want := range map[string]string{
		"":                       "",
		`a{0,1}[b-bx]|\d{2,2}`:   `a?[bx]|[0-9]{2}`,
		"||&&()(|)":              "||&&()(|)",
		"~a*~(b|~~c)&~.":         "~a*~(b|~~c)&~.",
		"a{0,}{1,}{0,1}{3,3}":    "a*+?{3}",
		"a{0}{1}{0,0}{1,1}":      "a{0}{1}{0}{1}",
		"a{0,2}{1,2}{2,}{5,5}":   "a{0,2}{1,2}{2,}{5}",
		"(a){0,5}*+?":            "(a){0,5}*+?",
		`[^\n]\.[.][^]`:          ".\\.\\.[\x00-\U0010ffff]",
		"[][^\x00-\U0010ffff]":   "[][]",
		"[a][a-a][aaa]":          "aaa",
		`[\-][\^][|][{]`:         `-^\|\{`,
		"\n\t\r[\n][\t][\r]":     `\n\t\r\n\t\r`,
		"[\n\t\r][\t-\r]":        `[\t\n\r][\t-\r]`,
		`\n-\t^,:`:               `\n-\t^,:`,
		`\|\&\~\*\+\?\{\}\.\\`:   `\|\&\~\*\+\?\{\}\.\\`,
		`\[\]\(\)\-\^`:           `\[\]\(\)-^`,
		`[|&~*+?{}.()]`:          `[&(-+.?{-~]`,
		`[\[\]\\\-\^]`:           `[\-\[-\^]`,
		`[\[\\]`:                 `[\[\\]`,
		`\w\W`:                   "[0-9A-Z_a-z][\x00-/:-@\\[-\\^`{-\U0010ffff]",
		`\s\S`:                   "[\\t\\n\\r ][\x00-\x08\v\f\x0e-\x1f!-\U0010ffff]",
		`\d\D`:                   "[0-9][\x00-/:-\U0010ffff]",
		`[\w\W][\s\S][^\s\S]`:    "[\x00-\U0010ffff][\x00-\U0010ffff][]",
		"[\ud7ff][\ud7ff\ue000]": "\ud7ff[\ud7ff\ue000]",
		"[\ud7fe-\ue000]":        "[\ud7fe-\ue000]",
		"[^\x00-\ud7ff]":         "[\ue000-\U0010ffff]",
		"[^\ue000-\U0010ffff]":   "[\x00-\ud7ff]",
		"é\ufffd\U0001f33f*":     "é\ufffd\U0001f33f*",
		"[éèê]":                  "[è-ê]",
		"\x00[\x00\x01]":         "\x00[\x00\x01]",
	} {
		if s, e, at := rx.Print(p); s != want || e != api.OK || at != 0 {
			t.Errorf("P5: Print(%q) = %q, %d, %d, want %q", p, s, e, at, want)
		}
	}
}

func TestSetWithMoreRangesThanMayBeHandedIn(t *testing.T) {
	var p strings.Builder
	for r := rune(0); r <= 0x58; r += 2 {
		p.WriteRune(r)
	}
	list := p.String()
	want := "[" + strings.ReplaceAll(list, "\n", `\n`) + "]"
	if s, e, _ := rx.Print("[" + list + "]"); utf8.RuneCountInString(list) <= api.MaxRanges || s != want || e != api.OK {
		t.Errorf("P5: %q, %d, want %q", s, e, want)
	}
	if s, e, _ := rx.Print("[^" + list + "]"); len(s) < api.MaxRanges || e != api.OK {
		t.Errorf("P5: %q, %d", s, e)
	}
}

// item is an item of [ ] and the runes that it has.
type item struct {
	text string
	has  func(r rune) bool
}

func span(text string, low, high rune) item {
	return item{text, func(r rune) bool { return low <= r && r <= high }}
}

func among(text string, list string, inside bool) item {
	return item{text, func(r rune) bool { return strings.ContainsRune(list, r) == inside }}
}

func items() []item {
	const digits = "0123456789"
	const words = digits + "ABCDEFGHIJKLMNOPQRSTUVWXYZ_abcdefghijklmnopqrstuvwxyz"
	return []item{
		among(`\d`, digits, true), among(`\D`, digits, false),
		among(`\w`, words, true), among(`\W`, words, false),
		among(`\s`, "\t\n\r ", true), among(`\S`, "\t\n\r ", false),
		span("a", 'a', 'a'), span("b", 'b', 'b'), span("b-e", 'b', 'e'), span(`\n`, '\n', '\n'),
		span(`\--.`, '-', '.'), span(`\[-\]`, '[', ']'), span(`\^`, '^', '^'), span(`.-\~`, '.', '~'),
		span("\x00-\x09", 0, 9), span("\x0b-\U0010ffff", 11, 0x10ffff), span("\x00-\ud7ff", 0, 0xd7ff),
		span("\ud7ff", 0xd7ff, 0xd7ff), span("\ue000", 0xe000, 0xe000), span("\ud7fe-\ue001", 0xd7fe, 0xe001),
		span("é-\u0120", 'é', 0x120), span("\U0010ffff", 0x10ffff, 0x10ffff), {"", func(rune) bool { return false }},
	}
}

// looked is runes in rising order, all those near which an item begins or ends; between two of them that are not neighbours the items change nothing.
func looked() []rune {
	var out []rune
	for r := rune(0); r <= 0x10ffff; r++ {
		if r < 0x200 || r >= 0xd7f0 && r < 0xd800 || r >= 0xe000 && r < 0xe010 || r >= 0x10fff0 {
			out = append(out, r)
		}
	}
	return out
}

// written is the one form of the set of what is looked at and has a property.
func written(list []rune, has func(r rune) bool) string {
	var runs [][]rune
	open := false
	for _, r := range list {
		switch {
		case has(r) && open:
			runs[len(runs)-1] = append(runs[len(runs)-1], r)
		case has(r):
			runs = append(runs, []rune{r})
		}
		open = has(r)
	}
	if len(runs) == 2 && runs[0][0] == 0 && len(runs[0]) == 10 && runs[1][0] == 11 && runs[1][len(runs[1])-1] == 0x10ffff {
		return "."
	}
	if len(runs) == 1 && len(runs[0]) == 1 {
		return escaped(runs[0][0], `|&~*+?{}.\[]()`)
	}
	out := "["
	for _, run := range runs {
		first, last := escaped(run[0], `[]\-^`), escaped(run[len(run)-1], `[]\-^`)
		switch len(run) {
		case 1:
			out += first
		case 2:
			out += first + last
		default:
			out += first + "-" + last
		}
	}
	return out + "]"
}

func escaped(r rune, list string) string {
	if name := strings.IndexRune("\n\t\r", r); name >= 0 {
		return `\` + "ntr"[name:name+1]
	}
	if strings.ContainsRune(list, r) {
		return `\` + string(r)
	}
	return string(r)
}

func TestSetsOfItems(t *testing.T) {
	list := looked()
	for _, a := range items() {
		for _, b := range items() {
			in := func(r rune) bool { return a.has(r) || b.has(r) }
			out := func(r rune) bool { return !in(r) }
			if s, e, _ := rx.Print("[" + a.text + b.text + "]"); s != written(list, in) || e != api.OK {
				t.Errorf("P5: of %q and %q: %q, %d, want %q", a.text, b.text, s, e, written(list, in))
			}
			if s, e, _ := rx.Print("[^" + a.text + b.text + "]"); s != written(list, out) || e != api.OK {
				t.Errorf("P5: all but %q and %q: %q, %d, want %q", a.text, b.text, s, e, written(list, out))
			}
		}
	}
}

func TestPlaces(t *testing.T) {
	for p, want := range map[string]int{
		"a)": 1, "(a": 2, "a{6}": 2, "*": 0, "é*(ü|ö": 9, "é*)": 3,
		"(a|*)": 3, "(a&+)": 3, "()?)": 3, "(()": 3, "~": 1, "~~": 2, "a~": 2, "~&a": 1, "~?": 1,
		"a{9}": 2, "a{-1}": 2, "a{1,0}": 4, "a{5,4}": 4, "a{5,6}": 4, "a{1,2,3}": 5, "a{1 }": 3, "a{01}": 3, "a{}": 2, "a}": 1, "a*}": 2, "(){,": 3,
		"[é-è]": 4, "[a-b-c]": 4, "[a-é-": 5, `[\d-z]`: 3, `[a-\w]`: 4, `[a-\]]`: 4, `[\~-\}]`: 5, "[\x7f-\\~]": 3, `[~-\~-a]`: 5,
		"[^^]": 2, "[a^]": 2, "[^-a]": 2, "[[]": 1, "[]]": 2, "[()": 3, "[^\\": 3, `[\`: 2, `\é`: 1, `\D\e`: 3, `\N`: 1, `\0`: 1,
	} {
		if s, e, at := rx.Print(p); s != "" || e != api.ErrPattern || at != want {
			t.Errorf("P4: Print(%q) = %q, %d, %d, want the place %d", p, s, e, at, want)
		}
	}
}

func TestWrongUTF(t *testing.T) {
	for _, bad := range []string{"\x80", "\xbf", "\xff", "\xfe", "\xc3", "\xc0\x80", "\xc1\xbf", "\xe0\x80\x80", "\xe2\x82", "\xe2a", "\xed\xa0\x80", "\xed\xbf\xbf", "\xf0\x9f\x8c", "\xf0\x80\x80\x80", "\xf4\x90\x80\x80", "\xf8\x88\x80\x80\x80"} {
		for _, ahead := range []string{"", "a", "é", "€", "\ufffd", "\U0001f33f", "*)[", "((((((((("} {
			for _, tail := range []string{"", "a", "\xff", "\U0010ffff"} {
				if s, e, at := rx.Print(ahead + bad + tail); s != "" || e != api.ErrUTF || at != len(ahead) {
					t.Errorf("P4: Print(%q) = %q, %d, %d, want the place %d", ahead+bad+tail, s, e, at, len(ahead))
				}
			}
		}
	}
}

func TestLong(t *testing.T) {
	for _, most := range []string{strings.Repeat("a", 60), strings.Repeat("é", 30), strings.Repeat("\U0001f33f", 15)} {
		if s, e, at := rx.Print(most); s != most || e != api.OK || at != 0 {
			t.Errorf("P4: Print(%q) = %q, %d, %d", most, s, e, at)
		}
		for _, more := range []string{"a", "\xff", "*)", strings.Repeat("(", 100000)} {
			if s, e, at := rx.Print(most + more); s != "" || e != api.ErrLong || at != 0 {
				t.Errorf("P4: Print of %d bytes = %q, %d, %d", len(most+more), s, e, at)
			}
		}
	}
	for _, c := range []string{"(", "~", "[", "[^", `\`} {
		open := strings.Repeat("a", 60-len(c)) + c
		if s, e, at := rx.Print(open); s != "" || e != api.ErrPattern || at != 60 {
			t.Errorf("P4: Print(%q) = %q, %d, %d, want the place 60", open, s, e, at)
		}
	}
	if s, e, _ := rx.Print(strings.Repeat(`\W`, 30)); len(s) <= api.MaxPattern || e != api.OK {
		t.Errorf("P5: %q, %d", s, e)
	}
}

func nested(n int) string {
	return strings.Repeat("(", n) + strings.Repeat(")", n)
}

func TestDeep(t *testing.T) {
	for p, want := range map[string]api.Errno{
		nested(8):                           api.OK,
		nested(9):                           api.ErrDeep,
		nested(30):                          api.ErrDeep,
		strings.Repeat("~", 8) + "a":        api.OK,
		strings.Repeat("~", 9) + "a":        api.ErrDeep,
		strings.Repeat("~", 59) + "a":       api.ErrDeep,
		"~" + nested(7):                     api.OK,
		"~" + nested(8):                     api.ErrDeep,
		"~" + nested(8) + "*":               api.ErrDeep,
		"(((((((~a)))))))":                  api.OK,
		"(((((((~~a)))))))":                 api.ErrDeep,
		"(((((((~a~a|~a&~a)))))))":          api.OK,
		"(((((((~a~a|~a&~~a)))))))":         api.ErrDeep,
		"(((((((a()*()+|()&())))))))":       api.OK,
		strings.Repeat("~(", 4) + "a))))":   api.OK,
		strings.Repeat("~(", 4) + "~a))))":  api.ErrDeep,
		strings.Repeat("~a", 30):            api.OK,
		strings.Repeat("()", 30):            api.OK,
		nested(8) + nested(8) + nested(8):   api.OK,
		"~a" + nested(8):                    api.OK,
		"~()" + nested(8):                   api.OK,
		"~()*" + nested(8):                  api.OK,
		"~a|" + nested(8) + "&" + nested(8): api.OK,
		`[(((((((((~~~~~~~~~]`:              api.OK,
		strings.Repeat(`\(\~`, 15):          api.OK,
		nested(8) + "|" + nested(9):         api.ErrDeep,
	} {
		s, e, at := rx.Print(p)
		if e != want || at != 0 || e != api.OK && s != "" {
			t.Errorf("P4: Print(%q) = %q, %d, %d, want %d", p, s, e, at, want)
		}
	}
	for p, want := range map[string]int{nested(9) + ")": 18, strings.Repeat("(", 60): 60, strings.Repeat("~", 9): 9, nested(9) + "*|~": 21} {
		if s, e, at := rx.Print(p); s != "" || e != api.ErrPattern || at != want {
			t.Errorf("P1, P4: Print(%q) = %q, %d, %d, want ErrPattern at %d", p, s, e, at, want)
		}
	}
}

func TestPrintHangsOnItsArgumentAlone(t *testing.T) {
	const list = `\d\w\s\D\W\S.`
	want, _, _ := rx.Print(list)
	for _, p := range []string{`[\da][\wé][\s\v]`, `[^\d\D]`, `[^\W_][\S ]`, `[\s\d\w]`, "(", "\xff", list + list} {
		rx.Print(p)
		if s, e, at := rx.Print(list); s != want || e != api.OK || at != 0 {
			t.Errorf("P2: behind Print(%q): %q, %d, %d, want %q", p, s, e, at, want)
		}
	}
}

// FuzzPrint: that no text makes Print panic, and that its answers have the form that P1, P4 and P5 ask for.
func FuzzPrint(f *testing.F) {
	for _, p := range []string{"", "a", `~(.*aa.*)&a.*b`, `((a)|b)*`, `[^\d\-a-é]{2,}`, "\xff", "a{2,1}", `[é-\~]`, nested(9), strings.Repeat("(", 61), "\x00"} {
		f.Add(p)
	}
	f.Fuzz(func(t *testing.T, p string) {
		s, e, at := rx.Print(p)
		switch {
		case e == api.OK:
			again, e, _ := rx.Print(s)
			if at != 0 || len(s) <= api.MaxPattern && (again != s || e != api.OK) {
				t.Errorf("P5: Print(%q) = %q, at %d, and of that %q, %d", p, s, at, again, e)
			}
		case s != "" || at < 0 || at > len(p):
			t.Errorf("P1: Print(%q) = %q, %d, %d", p, s, e, at)
		case (e == api.ErrLong) != (len(p) > api.MaxPattern):
			t.Errorf("P4: Print(%q) = %d", p, e)
		case e != api.ErrLong && (e == api.ErrUTF) == utf8.ValidString(p):
			t.Errorf("P4: Print(%q) = %d", p, e)
		case e == api.ErrUTF && !utf8.ValidString(p[:at]):
			t.Errorf("P4: Print(%q) = %d, %d", p, e, at)
		case e == api.ErrPattern && len(p) <= mostForGrammar && (!goesOn(p[:at]) || isPattern(p)):
			t.Errorf("P4: Print(%q) = %d, %d", p, e, at)
		}
	})
}
