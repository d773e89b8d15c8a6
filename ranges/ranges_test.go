package ranges

import (
	"slices"
	"testing"

	"bramble/api"
)

// evens: more ranges than a set that is handed in may have.
func evens() []api.Range {
	var out []api.Range
	for i := range 3 * api.MaxRanges {
		out = append(out, api.Range{Low: 2 * i, High: 2 * i})
	}
	return out
}

func TestNoLimit(t *testing.T) {
	a := evens()
	turned := slices.Clone(a)
	slices.Reverse(turned)
	if got := Form(turned); !slices.Equal(got, a) {
		t.Errorf("Form of %d ranges = %v", len(a), got)
	}
	if got := Not(Not(a)); !slices.Equal(got, a) {
		t.Errorf("Not of Not = %v", got)
	}
	if got := And(a, Not(a)); len(got) != 0 {
		t.Errorf("And with Not = %v", got)
	}
	if got := Or(Not(a), a); !slices.Equal(got, []api.Range{{Low: 0, High: api.MaxRune}}) {
		t.Errorf("Or with Not = %v", got)
	}
}

func TestNeighbours(t *testing.T) {
	for r, want := range map[int]int{0: 1, 0xd7fe: 0xd7ff, 0xd7ff: 0xe000, 0xe000: 0xe001} {
		if After(r) != want || before(want) != r {
			t.Errorf("After(%#x) = %#x, before(%#x) = %#x", r, After(r), want, before(want))
		}
	}
	for _, r := range []int{-1, before(0), After(api.MaxRune), 0xd800, 0xdfff} {
		if IsRune(r) {
			t.Errorf("IsRune(%#x)", r)
		}
	}
}
