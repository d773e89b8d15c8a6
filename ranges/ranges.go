// Package ranges works on sets of runes of any number of ranges: a pattern's own sets may have more than those that callers hand in.
//
// Every set that it gives out is in its one form and new memory.
package ranges

import (
	"cmp"
	"slices"

	"bramble/api"
)

// No rune lies between these two, so they are neighbours.
const (
	lastBelowGap  = 0xd7ff
	firstAboveGap = 0xe000
)

// IsRune tells whether a number is a rune.
func IsRune(r int) bool {
	return r >= 0 && r <= lastBelowGap || r >= firstAboveGap && r <= api.MaxRune
}

// After is the next rune behind a rune; behind the last one, a number that is none.
func After(r int) int {
	if r == lastBelowGap {
		return firstAboveGap
	}
	return r + 1
}

// before is the next rune ahead of a rune; ahead of the first one, a number that is none.
func before(r int) int {
	if r == firstAboveGap {
		return lastBelowGap
	}
	return r - 1
}

// Form is the one form of a set.
func Form(set []api.Range) []api.Range {
	rising := runesOnly(set)
	slices.SortFunc(rising, func(a, b api.Range) int { return cmp.Compare(a.Low, b.Low) })
	var out []api.Range
	for _, r := range rising {
		last := len(out) - 1
		if last >= 0 && r.Low <= After(out[last].High) {
			out[last].High = max(out[last].High, r.High)
		} else {
			out = append(out, r)
		}
	}
	return out
}

// runesOnly is the ranges with a rune at both ends; those without any rune are left out.
func runesOnly(set []api.Range) []api.Range {
	var out []api.Range
	for _, r := range set {
		if !IsRune(r.Low) {
			r.Low = firstAboveGap
		}
		if !IsRune(r.High) {
			r.High = lastBelowGap
		}
		if r.Low <= r.High {
			out = append(out, r)
		}
	}
	return out
}

// Or is what is in a or b.
func Or(a []api.Range, b []api.Range) []api.Range {
	return Form(slices.Concat(a, b))
}

// And is what is in a and b.
func And(a []api.Range, b []api.Range) []api.Range {
	a, b = Form(a), Form(b)
	var out []api.Range
	for len(a) > 0 && len(b) > 0 {
		both := api.Range{Low: max(a[0].Low, b[0].Low), High: min(a[0].High, b[0].High)}
		if both.Low <= both.High {
			out = append(out, both)
		}
		// The range that ends first can meet no other one.
		if a[0].High < b[0].High {
			a = a[1:]
		} else {
			b = b[1:]
		}
	}
	return out
}

// Not is all runes that are not in a.
func Not(a []api.Range) []api.Range {
	var out []api.Range
	next := 0
	for _, r := range Form(a) {
		if next < r.Low {
			out = append(out, api.Range{Low: next, High: before(r.Low)})
		}
		next = After(r.High)
	}
	if next <= api.MaxRune {
		out = append(out, api.Range{Low: next, High: api.MaxRune})
	}
	return out
}

// Has tells whether a number is a rune that is in a.
func Has(a []api.Range, r int) bool {
	inOne := func(x api.Range) bool { return x.Low <= r && r <= x.High }
	return IsRune(r) && slices.ContainsFunc(a, inOne)
}
