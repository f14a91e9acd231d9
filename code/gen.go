package code

import "sundial/api"

// writer of the code of a forest that may be, from the end of the code on: where an instruction leads to is written ahead of it, so that it is known how far away that is.
type writer struct {
	nodes   []api.Node
	code    []api.Instr // the last one first
	lengths []int       // of each node that is written: of the code from its first instruction on
	pool    []int
	places  map[int]int // of the pool's numbers
}

// write a node, once, and ahead of it what it leads to: Less last, so that mostly nothing need lead there.
func (w *writer) write(place int) {
	if w.lengths[place] > 0 {
		return
	}
	n := w.nodes[place]
	if n.Leaf {
		w.add(api.Tell, n.Answer)
	} else {
		w.write(n.More)
		w.write(n.Less)
		w.ask(n)
	}
	w.lengths[place] = len(w.code)
}

// ask whether the number is below the bound: if it is, go on to Less, else to More.
func (w *writer) ask(n api.Node) {
	if w.away(n.Less) > 0 {
		w.lead(n.Less)
	}
	w.add(api.Skip, w.away(n.More))
	w.add(api.Less, 0)
	w.add(api.Push, w.number(n.Bound))
	w.add(api.Arg, 0)
}

// lead to a node that is written; an answer is as short as the way to it.
func (w *writer) lead(place int) {
	if n := w.nodes[place]; n.Leaf {
		w.add(api.Tell, n.Answer)
	} else {
		w.add(api.Go, w.away(place))
	}
}

// away: how many instructions stand between the next one to be written and a node that is written.
func (w *writer) away(place int) int {
	return len(w.code) - w.lengths[place]
}

// number: its place in the pool, in which it is laid if it is not there.
func (w *writer) number(n int) int {
	place, ok := w.places[n]
	if !ok {
		place = len(w.pool)
		w.places[n] = place
		w.pool = append(w.pool, n)
	}
	return place
}

func (w *writer) add(op, n int) {
	w.code = append(w.code, api.Instr{Op: op, N: n})
}
