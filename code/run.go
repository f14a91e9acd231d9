package code

import (
	"strings"

	"sundial/api"
)

// told by a program that may be run: the place of an answer, and how many instructions were done.
func told(p api.Program, t int) (int, int) {
	var stack []int
	take := func() int {
		last := len(stack) - 1
		top := stack[last]
		stack = stack[:last]
		return top
	}
	steps := 0
	for i := 0; ; i++ {
		steps++
		x := p.Code[i]
		switch x.Op {
		case api.Arg:
			stack = append(stack, t)
		case api.Push:
			stack = append(stack, p.Pool[x.N])
		case api.Less:
			upper := take()
			lower := take()
			stack = append(stack, oneIf(lower < upper))
		case api.Skip:
			if take() == 0 {
				i += x.N
			}
		case api.Go:
			i += x.N
		case api.Tell:
			return x.N, steps
		}
	}
}

// oneIf it holds, else 0.
func oneIf(holds bool) int {
	if holds {
		return 1
	}
	return 0
}

// copied: an answer in memory of its own.
func copied(a api.Answer) api.Answer {
	a.Clock.Name = strings.Clone(a.Clock.Name)
	a.Offsets = append([]int(nil), a.Offsets...)
	return a
}

func copies(l []api.Answer) []api.Answer {
	out := make([]api.Answer, len(l))
	for i, a := range l {
		out[i] = copied(a)
	}
	return out
}
