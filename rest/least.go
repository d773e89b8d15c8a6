package rest

import (
	"cmp"
	"container/heap"
	"slices"

	"bramble/api"
	"bramble/ranges"
	"bramble/syntax"
)

// Least is the least text of at most so many runes that a pattern matches, or false, if there is none.
func Least(n *syntax.Node, most int) (string, bool) {
	nothing := &syntax.Node{Kind: syntax.Set}
	return Differ(n, nothing, most)
}

// Differ is the least text of at most so many runes that just one of two patterns matches, or false, if there is none.
func Differ(a *syntax.Node, b *syntax.Node, most int) (string, bool) {
	m := newMaker()
	alphabet := firsts(a, b)
	next := &waiting{}
	seen := map[[2]int]int{}
	heap.Push(next, begun{left: [2]*rest{m.of(a), m.of(b)}})
	for next.Len() > 0 {
		now := heap.Pop(next).(begun)
		if now.left[0].ends != now.left[1].ends {
			return string(now.text), true
		}
		// Behind a lesser text, the same was left: whatever goes on here is less there.
		key := [2]int{now.left[0].number, now.left[1].number}
		seen[key]++
		if seen[key] > 1 || now.left[0] == now.left[1] || len(now.text) == most {
			continue
		}
		for _, r := range alphabet {
			heap.Push(next, now.longer(r))
		}
	}
	return "", false
}

// firsts is, rising, the runes with which a least text can do: each set of the patterns has all runes from one of them up to the next one, or none of them.
func firsts(patterns ...*syntax.Node) []int {
	out := []int{0}
	for _, n := range patterns {
		for _, r := range n.Set {
			out = append(out, r.Low, ranges.After(r.High))
		}
		out = append(out, firsts(n.Parts...)...)
	}
	slices.Sort(out)
	out = slices.Compact(out)
	return slices.DeleteFunc(out, func(r int) bool { return r > api.MaxRune })
}

// begun is the beginning of a text and what is left of two patterns behind it.
type begun struct {
	text []rune
	left [2]*rest
}

// longer is what was begun and one more rune.
func (b begun) longer(r int) begun {
	return begun{
		text: append(slices.Clone(b.text), rune(r)),
		left: [2]*rest{b.left[0].behind(r), b.left[1].behind(r)},
	}
}

// waiting is a heap of what is to be looked at: the least text first.
type waiting []begun

func (w waiting) Len() int { return len(w) }

func (w waiting) Less(i, j int) bool {
	a, b := w[i].text, w[j].text
	return cmp.Or(cmp.Compare(len(a), len(b)), slices.Compare(a, b)) < 0
}

func (w waiting) Swap(i, j int) { w[i], w[j] = w[j], w[i] }

func (w *waiting) Push(x any) {
	*w = append(*w, x.(begun))
}

func (w *waiting) Pop() any {
	last := len(*w) - 1
	out := (*w)[last]
	*w = (*w)[:last]
	return out
}
