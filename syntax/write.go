package syntax

import (
	"slices"
	"strconv"
	"strings"

	"bramble/api"
	"bramble/ranges"
)

// Write is a pattern in its one form (P5).
func Write(n *Node) string {
	switch n.Kind {
	case Set:
		return writeSet(n.Set)
	case Row:
		return writeParts(n.Parts, "")
	case Or:
		return writeParts(n.Parts, "|")
	case And:
		return writeParts(n.Parts, "&")
	case Not:
		return "~" + writeParts(n.Parts, "")
	case Many:
		return writeParts(n.Parts, "") + writeTimes(n.Least, n.Most)
	case Group:
		return "(" + writeParts(n.Parts, "") + ")"
	}
	return ""
}

func writeParts(parts []*Node, between string) string {
	var out []string
	for _, n := range parts {
		out = append(out, Write(n))
	}
	return strings.Join(out, between)
}

func writeTimes(least int, most int) string {
	switch {
	case least == 0 && most == NoEnd:
		return "*"
	case least == 1 && most == NoEnd:
		return "+"
	case least == 0 && most == 1:
		return "?"
	case most == NoEnd:
		return "{" + strconv.Itoa(least) + ",}"
	case least == most:
		return "{" + strconv.Itoa(least) + "}"
	}
	return "{" + strconv.Itoa(least) + "," + strconv.Itoa(most) + "}"
}

func writeSet(set []api.Range) string {
	if slices.Equal(set, dot()) {
		return "."
	}
	if len(set) == 1 && set[0].Low == set[0].High {
		return writeRune(set[0].Low, notOfAtoms)
	}
	var out strings.Builder
	out.WriteString("[")
	for _, r := range set {
		out.WriteString(writeRange(r))
	}
	out.WriteString("]")
	return out.String()
}

func writeRange(r api.Range) string {
	low, high := writeRune(r.Low, notOfItems), writeRune(r.High, notOfItems)
	switch r.High {
	case r.Low:
		return low
	case ranges.After(r.Low):
		return low + high
	}
	return low + "-" + high
}

// writeRune writes a rune, with a `\` ahead if it is one of those that must be escaped where it stands.
func writeRune(r int, escaped string) string {
	switch c := rune(r); {
	case c == '\n':
		return `\n`
	case c == '\t':
		return `\t`
	case c == '\r':
		return `\r`
	case strings.ContainsRune(escaped, c):
		return `\` + string(c)
	default:
		return string(c)
	}
}
