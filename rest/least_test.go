package rest

import (
	"container/heap"
	"slices"
	"testing"

	"bramble/api"
	"bramble/syntax"
)

func read(t *testing.T, p string) *syntax.Node {
	t.Helper()
	n, e, at := syntax.Read(p)
	if e != api.OK {
		t.Fatalf("%q: %d, %d", p, e, at)
	}
	return n
}

func TestFirsts(t *testing.T) {
	for _, c := range []struct {
		p, q string
		want []int
	}{
		{"", "", []int{0}},
		{"[]", "[^]", []int{0}},
		{"a", "", []int{0, 'a', 'b'}},
		{"b", "a", []int{0, 'a', 'b', 'c'}},
		{".", "", []int{0, 10, 11}},
		{"(a|~(b&c)*)\x00", "", []int{0, 1, 'a', 'b', 'c', 'd'}},
		{"[^a-c]", "[a-c]", []int{0, 'a', 'd'}},
		{"\ud7ff", "", []int{0, 0xd7ff, 0xe000}},
		{"\ue000", "", []int{0, 0xe000, 0xe001}},
		{"\U0010ffff", "", []int{0, 0x10ffff}},
	} {
		if got := firsts(read(t, c.p), read(t, c.q)); !slices.Equal(got, c.want) {
			t.Errorf("%q, %q: %v, want %v", c.p, c.q, got, c.want)
		}
	}
}

func TestLeastComesOutOfTheHeapFirst(t *testing.T) {
	rising := []string{"", "\x00", "a", "b", "é", "\U0010ffff", "\x00a", "aa", "aé", "ba", "\x00\x00\x00", "aaa"}
	w := &waiting{}
	for i := range rising {
		heap.Push(w, begun{text: []rune(rising[(i*5+3)%len(rising)])})
	}
	for _, want := range rising {
		if got := heap.Pop(w).(begun); string(got.text) != want {
			t.Errorf("%q, want %q", string(got.text), want)
		}
	}
	if w.Len() != 0 {
		t.Errorf("%d are left", w.Len())
	}
}

// TestWhatIsMadeAlikeIsOne: patterns of which the same is left; that they are found to be one spares the search.
func TestWhatIsMadeAlikeIsOne(t *testing.T) {
	m := newMaker()
	for _, c := range [][2]string{
		{"a|b", "b|a|b"}, {"(a|b)|c", "a|(b|c)"}, {"a&b", "b&a"}, {"(ab)c", "a(bc)"}, {"~~a", "a"}, {"~(~a|~b)", "a&b"},
		{"[]a", "[]"}, {"a[]b", "[]"}, {"()a()", "a"}, {"a|[]", "a"}, {"a{0}", ""}, {`\d`, "[0-9]"}, {"a{0,}", "a*"},
	} {
		if a, b := m.of(read(t, c[0])), m.of(read(t, c[1])); a != b {
			t.Errorf("%q and %q are two", c[0], c[1])
		}
	}
	for _, c := range [][2]string{{"a", "b"}, {"a*", "a+"}, {"a{2}", "a{2,}"}, {"a|b", "ab"}, {"~a", "a"}, {"a?", "a*"}, {"", "[]"}} {
		if a, b := m.of(read(t, c[0])), m.of(read(t, c[1])); a == b {
			t.Errorf("%q and %q are one", c[0], c[1])
		}
	}
}
