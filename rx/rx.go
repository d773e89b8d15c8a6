// Package rx: patterns: see DOC.md.
package rx

import (
	"bramble/api"
	"bramble/syntax"
)

// Rx is a pattern.
type Rx struct{}

// Print writes a pattern in its one form (P4, P5).
func Print(p string) (string, api.Errno, int) {
	n, e, at := syntax.Read(p)
	if e != api.OK {
		return "", e, at
	}
	return syntax.Write(n), api.OK, 0
}

// New reads a pattern (P6).
func New(p string) (*Rx, api.Errno, int) { return nil, api.OK, 0 }

// Match tells whether a text matches (P7).
func (x *Rx) Match(s string) (bool, api.Errno) { return false, api.OK }

// Least tells the least text that matches (P8).
func (x *Rx) Least(most int) (string, bool, api.Errno) { return "", false, api.OK }

// Groups tells which part of a text each group takes (P9).
func (x *Rx) Groups(s string) ([]int, api.Errno) { return nil, api.OK }

// Differ tells the least text that one of two patterns matches alone (P10).
func Differ(a *Rx, b *Rx, most int) (string, bool, api.Errno) { return "", false, api.OK }
