// Package rx: patterns: see DOC.md.
package rx

import (
	"unicode/utf8"

	"bramble/api"
	"bramble/match"
	"bramble/rest"
	"bramble/syntax"
)

// Rx is a pattern.
type Rx struct {
	// A value, so that an Rx that New did not make is no danger for Differ: it matches nothing.
	tree    syntax.Node
	pattern *match.Pattern
}

// Print writes a pattern in its one form (P4, P5).
func Print(p string) (string, api.Errno, int) {
	n, e, at := syntax.Read(p)
	if e != api.OK {
		return "", e, at
	}
	return syntax.Write(n), api.OK, 0
}

// New reads a pattern (P6).
func New(p string) (*Rx, api.Errno, int) {
	n, e, at := syntax.Read(p)
	if e != api.OK {
		return nil, e, at
	}
	return &Rx{tree: *n, pattern: match.New(n)}, api.OK, 0
}

// Match tells whether a text matches (P7).
func (x *Rx) Match(s string) (bool, api.Errno) {
	if e := textError(s); e != api.OK {
		return false, e
	}
	return x.pattern.Match([]rune(s)), api.OK
}

// textError is what is wrong with a text that is handed in.
func textError(s string) api.Errno {
	switch {
	case len(s) > api.MaxText:
		return api.ErrLong
	case !utf8.ValidString(s):
		return api.ErrUTF
	}
	return api.OK
}

// Least tells the least text that matches (P8).
func (x *Rx) Least(most int) (string, bool, api.Errno) {
	if !isReach(most) {
		return "", false, api.ErrReach
	}
	s, ok := rest.Least(&x.tree, most)
	return s, ok, api.OK
}

// isReach tells whether texts of at most so many runes may be asked for.
func isReach(most int) bool {
	return most >= 0 && most <= api.MaxReach
}

// Groups tells which part of a text each group takes (P9).
func (x *Rx) Groups(s string) ([]int, api.Errno) {
	if e := textError(s); e != api.OK {
		return nil, e
	}
	if x.tree.Has(syntax.And) || x.tree.Has(syntax.Not) {
		return nil, api.ErrKind
	}
	taken, ok := x.pattern.Groups([]rune(s))
	if !ok {
		return nil, api.ErrNone
	}
	toBytes(taken, s)
	return taken, api.OK
}

// toBytes turns places that are counted in runes into those in bytes; -1 stays.
func toBytes(places []int, s string) {
	var begins []int
	for at := range s {
		begins = append(begins, at)
	}
	begins = append(begins, len(s))
	for i, at := range places {
		if at >= 0 {
			places[i] = begins[at]
		}
	}
}

// Differ tells the least text that one of two patterns matches alone (P10).
func Differ(a *Rx, b *Rx, most int) (string, bool, api.Errno) {
	if a == nil || b == nil {
		return "", false, api.ErrNil
	}
	if !isReach(most) {
		return "", false, api.ErrReach
	}
	s, ok := rest.Differ(&a.tree, &b.tree, most)
	return s, ok, api.OK
}
