package tree

import (
	"slices"
	"sort"

	"sundial/api"
	"sundial/civil"
)

// shows: what is told, of spans that may be, for the seconds that a clock shows.
func shows(l []api.Span) func(n int) api.Answer {
	return func(n int) api.Answer {
		// A clock is at most mostOffset away from the world's: spans that end further ahead show nothing from here on, and those that begin further behind show more.
		first := sort.Search(len(l), func(i int) bool { return endOf(l, i) > n-mostOffset })
		var a api.Answer
		for i := first; i < len(l) && l[i].From <= n+mostOffset; i++ {
			offset := l[i].Clock.Offset
			if l[i].From+offset <= n && n < endOf(l, i)+offset {
				a.Offsets = append(a.Offsets, offset)
			}
		}
		if len(a.Offsets) == 0 {
			a.Jump = jump(l[first:], n)
		}
		return a
	}
}

// jump: the instant with which the first span begins whose clock shows more then.
func jump(l []api.Span, n int) int {
	for _, s := range l {
		if s.From+s.Clock.Offset > n {
			return s.From
		}
	}
	_, end := civil.Window()
	return end
}

// endOf a span: where the next one begins, or the window ends.
func endOf(l []api.Span, i int) int {
	if i+1 < len(l) {
		return l[i+1].From
	}
	_, end := civil.Window()
	return end
}

// edges: a number ahead of all that clocks show, and those from which on something else may be told; rising.
func edges(l []api.Span) []int {
	begin, _ := civil.Window()
	edges := []int{begin - mostOffset - 1}
	for i, s := range l {
		edges = append(edges, s.From+s.Clock.Offset, endOf(l, i)+s.Clock.Offset)
	}
	slices.Sort(edges)
	return slices.Compact(edges)
}
