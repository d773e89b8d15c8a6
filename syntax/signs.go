package syntax

import "strings"

const (
	notOfAtoms = `|&~*+?{}.\[]()` // must be escaped outside [ ]
	notOfItems = `[]\-^`          // must be escaped inside [ ]
	signs      = `|&~*+?{}.\[]()-^`

	greatestSign = '~' // also above the runes 10, 9 and 13 that have letters for signs
)

// end is what a reader sees behind the last rune.
const end rune = -1

// isOfAtom tells whether a rune stands for itself outside [ ].
func isOfAtom(r rune) bool {
	return r != end && !strings.ContainsRune(notOfAtoms, r)
}

// isOfItem tells whether a rune stands for itself inside [ ].
func isOfItem(r rune) bool {
	return r != end && !strings.ContainsRune(notOfItems, r)
}

// signed is the rune that a sign behind `\` means, or false, if it is no sign.
func signed(sign rune) (rune, bool) {
	switch sign {
	case 'n':
		return '\n', true
	case 't':
		return '\t', true
	case 'r':
		return '\r', true
	}
	return sign, sign != end && strings.ContainsRune(signs, sign)
}
