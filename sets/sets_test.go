package sets_test

import (
	"math"
	"slices"
	"testing"

	"bramble/api"
	"bramble/sets"
)

// of: ranges, by their ends.
func of(ends ...int) []api.Range {
	var out []api.Range
	for i := 0; i < len(ends); i += 2 {
		out = append(out, api.Range{Low: ends[i], High: ends[i+1]})
	}
	return out
}

// apart: n ranges that do not touch, from first on.
func apart(n int, first int) []api.Range {
	var out []api.Range
	for i := range n {
		out = append(out, api.Range{Low: first + 4*i, High: first + 4*i})
	}
	return out
}

func isRune(r int) bool {
	return r >= 0 && r <= api.MaxRune && (r < 0xd800 || r > 0xdfff)
}

func member(set []api.Range, r int) bool {
	for _, x := range set {
		if isRune(r) && x.Low <= r && r <= x.High {
			return true
		}
	}
	return false
}

// place: a rune's place among all runes.
func place(r int) int {
	if r > 0xdfff {
		return r - 0x800
	}
	return r
}

func isOneForm(set []api.Range) bool {
	for i, x := range set {
		if !isRune(x.Low) || !isRune(x.High) || x.Low > x.High {
			return false
		}
		if i > 0 && place(x.Low) <= place(set[i-1].High)+1 {
			return false
		}
	}
	return true
}

var edges = []int{0, 1, 7, 0xd7fe, 0xd7ff, 0xd800, 0xdabc, 0xdfff, 0xe000, 0xe001, 0x10fffe, 0x10ffff}

// points: where membership of sets with such ends can change, and both sides of it.
func points() []int {
	var out []int
	for _, e := range edges {
		out = append(out, e-1, e, e+1)
	}
	slices.Sort(out)
	return slices.Compact(out)
}

// single: every set of one range between two edges.
func single() [][]api.Range {
	var out [][]api.Range
	for i, low := range edges {
		for _, high := range edges[i:] {
			out = append(out, of(low, high))
		}
	}
	return out
}

// check: that an answer is OK, in its one form, and has just the runes that it should have.
func check(t *testing.T, call string, a, b, got []api.Range, e api.Errno, want func(r int) bool) {
	t.Helper()
	if e != api.OK || !isOneForm(got) {
		t.Fatalf("P3: %s of %v, %v = %v, %d: not its one form", call, a, b, got, e)
	}
	for _, r := range points() {
		if member(got, r) != (isRune(r) && want(r)) {
			t.Fatalf("P3: %s of %v, %v = %v: wrong at %#x", call, a, b, got, r)
		}
	}
}

func checkAll(t *testing.T, a, b []api.Range) {
	t.Helper()
	norm, e := sets.Norm(a)
	check(t, "Norm", a, nil, norm, e, func(r int) bool { return member(a, r) })
	not, e := sets.Not(a)
	check(t, "Not", a, nil, not, e, func(r int) bool { return !member(a, r) })
	or, e := sets.Or(a, b)
	check(t, "Or", a, b, or, e, func(r int) bool { return member(a, r) || member(b, r) })
	and, e := sets.And(a, b)
	check(t, "And", a, b, and, e, func(r int) bool { return member(a, r) && member(b, r) })
	for _, r := range points() {
		if is, e := sets.Has(a, r); is != member(a, r) || e != api.OK {
			t.Fatalf("P3: Has(%v, %#x) = %v, %d", a, r, is, e)
		}
	}
}

func TestEverySetOfFewRanges(t *testing.T) {
	ones := append(single(), nil, []api.Range{})
	for i, a := range ones {
		for k, b := range ones {
			checkAll(t, a, b)
			both := slices.Concat(a, b)
			checkAll(t, both, ones[(7*i+11*k)%len(ones)])
			checkAll(t, ones[(5*i+3*k)%len(ones)], both)
		}
	}
}

func TestOneFormByExample(t *testing.T) {
	for _, c := range []struct{ a, want []api.Range }{
		{of(5, 9, 1, 3, 4, 4), of(1, 9)},
		{of(5, 9, 1, 3), of(1, 3, 5, 9)},
		{of(1, 90, 2, 3, 4, 5), of(1, 90)},
		{of(2, 3, 1, 90), of(1, 90)},
		{of(0xd000, 0xd7ff, 0xe000, 0xe001), of(0xd000, 0xe001)},
		{of(0xdfff, 0xe000, 0xd7ff, 0xd800), of(0xd7ff, 0xe000)},
		{of(0xd7fe, 0xd7fe, 0xe000, 0xe000), of(0xd7fe, 0xd7fe, 0xe000, 0xe000)},
		{of(0xd800, 0xd800, 0xdfff, 0xdfff), nil},
	} {
		if got, e := sets.Norm(c.a); !slices.Equal(got, c.want) || e != api.OK {
			t.Errorf("P3: Norm(%v) = %v, %d, want %v", c.a, got, e, c.want)
		}
	}
	if got, e := sets.Not(of(0, 0x10ffff)); len(got) != 0 || e != api.OK {
		t.Errorf("P3: Not of all = %v, %d", got, e)
	}
}

func TestMostRanges(t *testing.T) {
	a, b := apart(api.MaxRanges, 1), apart(api.MaxRanges, 3)
	if got, e := sets.Norm(a); !slices.Equal(got, a) || e != api.OK {
		t.Errorf("P3: Norm of MaxRanges ranges = %v, %d", got, e)
	}
	if got, e := sets.Or(a, b); len(got) != 2*api.MaxRanges || e != api.OK {
		t.Errorf("P3: Or = %d ranges, %d", len(got), e)
	}
	if got, e := sets.Not(a); len(got) != api.MaxRanges+1 || e != api.OK {
		t.Errorf("P3: Not = %d ranges, %d", len(got), e)
	}
	if got, e := sets.And(a, of(0, api.MaxRune)); !slices.Equal(got, a) || e != api.OK {
		t.Errorf("P3: And = %v, %d", got, e)
	}
	if got, e := sets.And(a, b); len(got) != 0 || e != api.OK {
		t.Errorf("P3: And = %v, %d", got, e)
	}
	if is, e := sets.Has(a, a[api.MaxRanges-1].Low); !is || e != api.OK {
		t.Errorf("P3: Has = %v, %d", is, e)
	}
}

// wrong: lists that are no sets.
func wrong() [][]api.Range {
	return [][]api.Range{
		apart(api.MaxRanges+1, 1), make([]api.Range, api.MaxRanges+1), make([]api.Range, 100000),
		of(-1, 5), of(-5, -1), of(5, 4), of(0, api.MaxRune+1), of(api.MaxRune+1, api.MaxRune+1),
		of(0xdfff, 0xd800), of(1, 2, 4, 3), of(1, 2, 3, 3, -1, -1),
		of(math.MinInt, math.MaxInt), of(math.MaxInt, math.MinInt), of(math.MinInt, math.MinInt), of(math.MaxInt, math.MaxInt),
	}
}

func TestWrongSets(t *testing.T) {
	for _, bad := range wrong() {
		for _, other := range append(wrong(), nil, of(1, 2)) {
			refused(t, "Or", sets.Or, bad, other)
			refused(t, "Or", sets.Or, other, bad)
			refused(t, "And", sets.And, bad, other)
			refused(t, "And", sets.And, other, bad)
		}
		if got, e := sets.Norm(bad); len(got) != 0 || e != api.ErrSet {
			t.Errorf("P3: Norm = %v, %d", got, e)
		}
		if got, e := sets.Not(bad); len(got) != 0 || e != api.ErrSet {
			t.Errorf("P3: Not = %v, %d", got, e)
		}
		for _, r := range []int{math.MinInt, -1, 0, 1, math.MaxInt} {
			if is, e := sets.Has(bad, r); is || e != api.ErrSet {
				t.Errorf("P1, P3: Has(.., %d) = %v, %d", r, is, e)
			}
		}
	}
}

func refused(t *testing.T, name string, call func(a, b []api.Range) ([]api.Range, api.Errno), a, b []api.Range) {
	t.Helper()
	if got, e := call(a, b); len(got) != 0 || e != api.ErrSet {
		t.Errorf("P1, P3: %s of %d and %d ranges = %v, %d", name, len(a), len(b), got, e)
	}
}

func TestHasAsksForRunes(t *testing.T) {
	for _, r := range []int{math.MinInt, -1, 0xd800, 0xdbff, 0xdfff, api.MaxRune + 1, math.MaxInt} {
		if is, e := sets.Has(of(0, api.MaxRune), r); is || e != api.OK {
			t.Errorf("P1, P3: Has(all, %d) = %v, %d", r, is, e)
		}
	}
}

// calls: each call that gives a list, of two sets.
func calls() map[string]func(a, b []api.Range) ([]api.Range, api.Errno) {
	return map[string]func(a, b []api.Range) ([]api.Range, api.Errno){
		"Norm": func(a, _ []api.Range) ([]api.Range, api.Errno) { return sets.Norm(a) },
		"Not":  func(a, _ []api.Range) ([]api.Range, api.Errno) { return sets.Not(a) },
		"Or":   sets.Or,
		"And":  sets.And,
	}
}

// handedIn: sets that are in their one form and sets that are not, each with spare room behind it.
func handedIn() [][]api.Range {
	var out [][]api.Range
	for _, set := range [][]api.Range{nil, of(1, 3), of(1, 3, 5, 9), of(5, 9, 1, 3, 4, 4), of(0xd900, 0xe000, 7, 7), of(0, api.MaxRune)} {
		room := append(slices.Clone(set), of(70, 71, 80, 81, 90, 91, 92, 93)...)
		out = append(out, room[:len(set)])
	}
	return out
}

func TestHandedInStaysAndAnswersAreNew(t *testing.T) {
	for name, call := range calls() {
		for i, a := range handedIn() {
			for k, b := range handedIn() {
				a0, b0 := slices.Clone(a[:cap(a)]), slices.Clone(b[:cap(b)])
				first, _ := call(a, b)
				want := slices.Clone(first)
				spoil(first)
				second, _ := call(a, b)
				if !slices.Equal(second, want) {
					t.Errorf("P2: %s of %d, %d: %v, then %v", name, i, k, want, second)
				}
				spoil(first)
				if !slices.Equal(second, want) {
					t.Errorf("P2: %s of %d, %d: two answers share memory", name, i, k)
				}
				if !slices.Equal(a[:cap(a)], a0) || !slices.Equal(b[:cap(b)], b0) {
					t.Errorf("P2: %s of %d, %d: what was handed in is another", name, i, k)
				}
			}
		}
	}
}

// spoil writes over a list and its spare room.
func spoil(list []api.Range) {
	list = list[:cap(list)]
	for i := range list {
		list[i] = api.Range{Low: -7, High: -7}
	}
}

func TestOneSetTwice(t *testing.T) {
	a := of(5, 9, 1, 3)
	or, e := sets.Or(a, a)
	and, f := sets.And(a, a)
	if want := of(1, 3, 5, 9); !slices.Equal(or, want) || !slices.Equal(and, want) || e != api.OK || f != api.OK {
		t.Errorf("P2, P3: %v, %d, %v, %d", or, e, and, f)
	}
}
