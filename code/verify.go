package code

import (
	"sundial/api"
	"sundial/tree"
)

// checkParts of a program: each answer and each instruction by itself.
func checkParts(p api.Program) api.Errno {
	if len(p.Code) == 0 {
		return api.ErrNone
	}
	if len(p.Code) > api.MaxCode || len(p.Pool) > api.MaxPool || len(p.Answers) > api.MaxAnswers {
		return api.ErrSize
	}
	for _, a := range p.Answers {
		if e := tree.CheckAnswer(a); e != api.OK {
			return e
		}
	}
	for i, x := range p.Code {
		if !isOperator(x.Op) {
			return api.ErrKind
		}
		if x.N < 0 || x.N >= choices(p, i) {
			return api.ErrRange
		}
	}
	return api.OK
}

// choices: N of an instruction is from 0 on, and below that.
func choices(p api.Program, place int) int {
	switch p.Code[place].Op {
	case api.Push:
		return len(p.Pool)
	case api.Tell:
		return len(p.Answers)
	case api.Skip, api.Go:
		return len(p.Code) - place - 1
	}
	return 1
}

// arrival at an instruction: how many are on the stack then, and how many instructions were done at most.
type arrival struct {
	some  bool
	stack int
	steps int
}

// follow code on all ways: how many steps it does at most, and how many are on the stack at most. All ways lead on, so that all arrivals at an instruction are known when its turn comes.
func follow(code []api.Instr) (int, int, api.Errno) {
	arrivals := make([]arrival, len(code))
	arrivals[0].some = true
	steps, stack := 0, 0
	for i, x := range code {
		if !arrivals[i].some {
			continue
		}
		then, ok := after(arrivals[i], operatorOf(x.Op))
		if !ok {
			return 0, 0, api.ErrStack
		}
		for _, next := range nexts(x, i) {
			if next == len(code) {
				return 0, 0, api.ErrShort
			}
			if !arrivals[next].join(then) {
				return 0, 0, api.ErrForm
			}
		}
		steps, stack = max(steps, then.steps), max(stack, then.stack)
	}
	return steps, stack, api.OK
}

// after an operator is done: what the next instruction is arrived at with, if the stack may be so.
func after(a arrival, o operator) (arrival, bool) {
	if a.stack < o.takes {
		return arrival{}, false
	}
	a.stack += o.lays - o.takes
	a.steps++
	return a, a.stack <= api.MaxStack
}

// join another arrival at the same instruction, if it has as many on the stack.
func (a *arrival) join(b arrival) bool {
	if a.some && a.stack != b.stack {
		return false
	}
	b.steps = max(a.steps, b.steps)
	*a = b
	return true
}

// nexts: the places at which it may go on.
func nexts(x api.Instr, place int) []int {
	switch x.Op {
	case api.Tell:
		return nil
	case api.Skip:
		return []int{place + 1, place + 1 + x.N}
	case api.Go:
		return []int{place + 1 + x.N}
	}
	return []int{place + 1}
}
