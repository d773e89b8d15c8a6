// Package syntax reads patterns into trees and writes trees in their one form.
package syntax

import (
	"slices"

	"bramble/api"
)

// Kind tells what a part of a pattern is.
type Kind int

const (
	Set   Kind = iota // one rune of Set
	Row               // Parts, one behind the other
	Or                // one of Parts
	And               // all of Parts
	Not               // what the one part does not match
	Many              // the one part, Least to Most times
	Group             // the one part, in parentheses
)

// NoEnd is the Most of a part that may come again and again.
const NoEnd = -1

// Node is a part of a pattern. Single runes, `.`, classes and `[..]` are all of the kind Set: the one form asks only which runes they match.
type Node struct {
	Kind        Kind
	Set         []api.Range // in its one form
	Parts       []*Node
	Least, Most int
}

// Has tells whether a pattern is, or has in it, a part of a kind.
func (n *Node) Has(kind Kind) bool {
	if n.Kind == kind {
		return true
	}
	return slices.ContainsFunc(n.Parts, func(part *Node) bool { return part.Has(kind) })
}
