package syntax

import (
	"slices"
	"unicode"

	"bramble/api"
	"bramble/ranges"
)

// The classes, by their letters, in their one form. The start fills them; later they are only read.
var (
	digits    []api.Range // d
	words     []api.Range // w
	spaces    []api.Range // s
	notDigits []api.Range // D
	notWords  []api.Range // W
	notSpaces []api.Range // S
)

func init() {
	digits = ranges.Form([]api.Range{{Low: '0', High: '9'}})
	words = ranges.Or(digits, []api.Range{{Low: 'A', High: 'Z'}, {Low: 'a', High: 'z'}, {Low: '_', High: '_'}})
	spaces = ranges.Form([]api.Range{{Low: '\t', High: '\n'}, {Low: '\r', High: '\r'}, {Low: ' ', High: ' '}})
	notDigits = ranges.Not(digits)
	notWords = ranges.Not(words)
	notSpaces = ranges.Not(spaces)
}

// Class is a copy of the class of a letter as the start filled it, or false, if the letter has none.
//
// Read leans on classOf instead, so that what a pattern means hangs on its text alone; the two have the same classes.
func Class(letter rune) ([]api.Range, bool) {
	switch letter {
	case 'd':
		return slices.Clone(digits), true
	case 'w':
		return slices.Clone(words), true
	case 's':
		return slices.Clone(spaces), true
	case 'D':
		return slices.Clone(notDigits), true
	case 'W':
		return slices.Clone(notWords), true
	case 'S':
		return slices.Clone(notSpaces), true
	}
	return nil, false
}

// classOf is the class of a letter, made anew in its one form, or false, if the letter has none.
func classOf(letter rune) ([]api.Range, bool) {
	switch letter {
	case 'd':
		return []api.Range{{Low: '0', High: '9'}}, true
	case 'w':
		return []api.Range{{Low: '0', High: '9'}, {Low: 'A', High: 'Z'}, {Low: '_', High: '_'}, {Low: 'a', High: 'z'}}, true
	case 's':
		return []api.Range{{Low: '\t', High: '\n'}, {Low: '\r', High: '\r'}, {Low: ' ', High: ' '}}, true
	case 'D', 'W', 'S':
		others, ok := classOf(unicode.ToLower(letter))
		return ranges.Not(others), ok
	}
	return nil, false
}

// dot is the set of `.`.
func dot() []api.Range {
	return ranges.Not(one('\n'))
}

// one is the set of one rune.
func one(r rune) []api.Range {
	return []api.Range{{Low: int(r), High: int(r)}}
}
