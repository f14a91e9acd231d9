package tree

import (
	"math"
	"slices"
	"strings"

	"sundial/api"
)

// part of all numbers: from one on, up to where the next part begins, one answer is told. The first part begins ahead of all numbers, whatever it says.
type part struct {
	from   int
	answer int
}

// finder: a closure that tells the place of a value in a list, in which it is laid if none with its key is there, and one that tells that list.
func finder[K comparable, V any](key func(V) K) (func(V) int, func() []V) {
	places := map[K]int{}
	var list []V
	place := func(v V) int {
		k := key(v)
		n, ok := places[k]
		if !ok {
			n = len(list)
			places[k] = n
			list = append(list, v)
		}
		return n
	}
	return place, func() []V { return list }
}

// answerKey: an answer that may be, as what can be held against others in a map.
type answerKey struct {
	clock   api.Clock
	many    int
	offsets [api.MaxList]int
	jump    int
}

func answerKeyOf(a api.Answer) answerKey {
	k := answerKey{clock: a.Clock, many: len(a.Offsets), jump: a.Jump}
	copy(k.offsets[:], a.Offsets)
	return k
}

// nodeKey: a node itself can be held against others.
func nodeKey(n api.Node) api.Node { return n }

// grow the nodes of a tree that is not deep, with no more nodes than any other one that tells these answers: a leaf each, and a node for each number from which on it is another one.
func grow(l []part) []api.Node {
	l = slices.CompactFunc(l, func(a, b part) bool { return a.answer == b.answer })
	place, nodes := finder(nodeKey)
	var root func(l []part) int
	root = func(l []part) int {
		if len(l) == 1 {
			return place(api.Node{Leaf: true, Answer: l[0].answer})
		}
		half := len(l) / 2
		less, more := root(l[:half]), root(l[half:])
		return place(api.Node{Bound: l[half].from, Less: less, More: more})
	}
	root(l)
	return nodes()
}

// partsOf all numbers, by the nodes of a forest that may be; a closure tells which answer stands for the one of a leaf.
func partsOf(nodes []api.Node, answer func(int) int) []part {
	var parts []part
	var walk func(n api.Node, from, last int)
	walk = func(n api.Node, from, last int) {
		// Where all numbers go the same way, the node asks in vain.
		for !n.Leaf && (n.Bound <= from || n.Bound > last) {
			if n.Bound > last {
				n = nodes[n.Less]
			} else {
				n = nodes[n.More]
			}
		}
		if n.Leaf {
			parts = append(parts, part{from: from, answer: answer(n.Answer)})
			return
		}
		walk(nodes[n.Less], from, n.Bound-1)
		walk(nodes[n.More], n.Bound, last)
	}
	walk(nodes[len(nodes)-1], math.MinInt, math.MaxInt)
	return parts
}

// copied: an answer in memory of its own.
func copied(a api.Answer) api.Answer {
	a.Clock.Name = strings.Clone(a.Clock.Name)
	a.Offsets = append([]int(nil), a.Offsets...)
	return a
}

func copies(l []api.Answer) []api.Answer {
	out := make([]api.Answer, len(l))
	for i, a := range l {
		out[i] = copied(a)
	}
	return out
}
