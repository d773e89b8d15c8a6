// Package sets: sets of runes: see DOC.md.
package sets

import (
	"bramble/api"
	"bramble/ranges"
)

// Norm is a set in its one form (P3).
func Norm(a []api.Range) ([]api.Range, api.Errno) {
	if !isSet(a) {
		return nil, api.ErrSet
	}
	return ranges.Form(a), api.OK
}

// Or is what is in one of two sets (P3).
func Or(a []api.Range, b []api.Range) ([]api.Range, api.Errno) {
	if !isSet(a) || !isSet(b) {
		return nil, api.ErrSet
	}
	return ranges.Or(a, b), api.OK
}

// And is what is in both (P3).
func And(a []api.Range, b []api.Range) ([]api.Range, api.Errno) {
	if !isSet(a) || !isSet(b) {
		return nil, api.ErrSet
	}
	return ranges.And(a, b), api.OK
}

// Not is what is not in a set (P3).
func Not(a []api.Range) ([]api.Range, api.Errno) {
	if !isSet(a) {
		return nil, api.ErrSet
	}
	return ranges.Not(a), api.OK
}

// Has tells whether a rune is in a set (P3).
func Has(a []api.Range, r int) (bool, api.Errno) {
	if !isSet(a) {
		return false, api.ErrSet
	}
	return ranges.Has(a, r), api.OK
}

// isSet tells whether ranges that are handed in may stand for a set.
func isSet(a []api.Range) bool {
	if len(a) > api.MaxRanges {
		return false
	}
	for _, r := range a {
		if r.Low < 0 || r.High > api.MaxRune || r.Low > r.High {
			return false
		}
	}
	return true
}
