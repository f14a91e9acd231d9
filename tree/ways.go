package tree

import "sundial/api"

// merge neighbours with one answer. No forest that tells the same has fewer nodes than what is grown here, so that nothing is left to Share; and it is not deep, so that nothing is left to Balance.
func merge(f api.Forest) api.Forest {
	place, answers := finder(answerKeyOf)
	parts := partsOf(f.Nodes, func(n int) int { return place(f.Answers[n]) })
	return api.Forest{Nodes: grow(parts), Answers: copies(answers())}
}

// balance: answers stay where they are, but a leaf stands for all of its places, so that there are no more nodes than ahead, and nothing is left to Share.
func balance(f api.Forest) api.Forest {
	parts := partsOf(f.Nodes, func(n int) int { return n })
	return api.Forest{Nodes: grow(parts), Answers: copies(f.Answers)}
}

// share trees that are the same, of those that the root leads to. The root stays the last one: no tree is the same as a part of itself.
func share(f api.Forest) api.Forest {
	asked := askedOf(f.Nodes)
	place, shared := finder(nodeKey)
	places := make([]int, len(f.Nodes))
	for i, n := range f.Nodes {
		if !asked[i] {
			continue
		}
		if !n.Leaf {
			n.Less, n.More = places[n.Less], places[n.More]
		}
		places[i] = place(n)
	}
	return api.Forest{Nodes: shared(), Answers: copies(f.Answers)}
}

// askedOf nodes: which of them does the root lead to?
func askedOf(nodes []api.Node) []bool {
	asked := make([]bool, len(nodes))
	asked[len(nodes)-1] = true
	for i := len(nodes) - 1; i >= 0; i-- {
		if n := nodes[i]; asked[i] && !n.Leaf {
			asked[n.Less], asked[n.More] = true, true
		}
	}
	return asked
}
