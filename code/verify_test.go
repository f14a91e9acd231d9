package code

import (
	"fmt"
	"math"
	"slices"
	"strings"
	"testing"

	"sundial/api"
)

// Limits of answers, as chapter 4 says them.
const (
	offsetLimit = 2 * 86400
	nameLimit   = 24
	jumpLimit   = 1 << 40
)

// die: numbers that look drawn, the same each time.
type die uint64

func (d *die) below(n int) int {
	*d = *d*6364136223846793005 + 1442695040888963407
	return int(uint64(*d>>33) % uint64(n))
}

// instrs: code, written as operators with their numbers and semicolons between them; "arg*3" is three times arg.
func instrs(s string) []api.Instr {
	ops := map[string]int{"arg": 1, "push": 2, "less": 3, "skip": 4, "go": 5, "tell": 6}
	var l []api.Instr
	for part := range strings.SplitSeq(s, ";") {
		name, times, many := "", "", 1
		x := api.Instr{}
		fmt.Sscan(part, &name, &x.N)
		if name, times, _ = strings.Cut(name, "*"); times != "" {
			fmt.Sscan(times, &many)
		}
		x.Op = ops[name]
		l = append(l, slices.Repeat([]api.Instr{x}, many)...)
	}
	return l
}

// programOf code: with some numbers, and answers whose Jump tells their place.
func programOf(code string) api.Program {
	return api.Program{
		Code:    instrs(code),
		Pool:    []int{0, 5, -5, math.MinInt, math.MaxInt},
		Answers: []api.Answer{{Jump: 0}, {Jump: 1}, {Jump: 2}, {Jump: 3}},
	}
}

func sampleProgram() api.Program {
	return api.Program{
		Code: instrs("arg; push 1; less; skip 2; go 0; tell 0; push 0; skip 0; tell 2"),
		Pool: []int{5, -7},
		Answers: []api.Answer{
			{Clock: api.Clock{Offset: 60, Saving: true, Name: "A"}, Offsets: []int{3, 2, 1}, Jump: 9},
			{Clock: api.Clock{Name: "B"}, Offsets: []int{5, 6, 7}},
			{Offsets: []int{1, 1, 1}, Jump: -4},
		},
	}
}

// fault: something that is made wrong.
type fault struct {
	what string
	want api.Errno
	do   func(*api.Program)
}

func answerFaults(i int) [][]fault {
	var ranges []fault
	for _, n := range []int{-offsetLimit - 1, offsetLimit + 1, math.MinInt, math.MaxInt} {
		ranges = append(ranges, fault{fmt.Sprint("answer ", i, " with offset ", n), api.ErrRange, func(p *api.Program) { p.Answers[i].Clock.Offset = n }})
		ranges = append(ranges, fault{fmt.Sprint("answer ", i, " with offsets ", n), api.ErrRange, func(p *api.Program) { p.Answers[i].Offsets[2] = n }})
	}
	for _, n := range []int{-jumpLimit - 1, jumpLimit + 1, math.MinInt, math.MaxInt} {
		ranges = append(ranges, fault{fmt.Sprint("answer ", i, " with jump ", n), api.ErrRange, func(p *api.Program) { p.Answers[i].Jump = n }})
	}
	return [][]fault{ranges, {
		{fmt.Sprint("answer ", i, " with many offsets"), api.ErrSize, func(p *api.Program) {
			p.Answers[i].Offsets = append(p.Answers[i].Offsets, make([]int, api.MaxList-2)...)
		}},
		{fmt.Sprint("answer ", i, " with a long name"), api.ErrSize, func(p *api.Program) {
			p.Answers[i].Clock.Name = strings.Repeat("x", nameLimit+1)
		}},
	}}
}

// instrFaults: of one of the sample's instructions.
func instrFaults(i int) [][]fault {
	var kinds, ranges []fault
	for _, n := range []int{math.MinInt, -1, 0, 7, 257, math.MaxInt} {
		kinds = append(kinds, fault{fmt.Sprint("instruction ", i, " with Op ", n), api.ErrKind, func(p *api.Program) { p.Code[i].Op = n }})
	}
	p := sampleProgram()
	first := map[int]int{api.Arg: 1, api.Less: 1, api.Push: len(p.Pool), api.Tell: len(p.Answers), api.Skip: len(p.Code) - i - 1, api.Go: len(p.Code) - i - 1}
	for _, n := range []int{math.MinInt, -1, first[p.Code[i].Op], math.MaxInt - 1, math.MaxInt} {
		ranges = append(ranges, fault{fmt.Sprint("instruction ", i, " with N ", n), api.ErrRange, func(p *api.Program) { p.Code[i].N = n }})
	}
	return [][]fault{kinds, ranges}
}

// programFaults in the document's order; which one of a rank is met first, none can tell.
func programFaults() [][]fault {
	ranks := [][]fault{{
		{"no code", api.ErrNone, func(p *api.Program) { p.Code = p.Code[:0] }},
	}, {
		{"too much code", api.ErrSize, func(p *api.Program) {
			p.Code = append(p.Code, make([]api.Instr, api.MaxCode+1-len(p.Code))...)
		}},
		{"too great a pool", api.ErrSize, func(p *api.Program) {
			p.Pool = append(p.Pool, make([]int, api.MaxPool+1-len(p.Pool))...)
		}},
		{"too many answers", api.ErrSize, func(p *api.Program) {
			p.Answers = append(p.Answers, make([]api.Answer, api.MaxAnswers+1-len(p.Answers))...)
		}},
	}}
	for i := range sampleProgram().Answers {
		ranks = append(ranks, answerFaults(i)...)
	}
	for i := range sampleProgram().Code {
		ranks = append(ranks, instrFaults(i)...)
	}
	return ranks
}

// refused: what all calls refuse of a program; with an error they answer nothing beside it.
func refused(t *testing.T, p api.Program) api.Errno {
	t.Helper()
	steps, stack, e := Verify(p)
	a, done, f := Run(p, 3)
	b, g := Encode(p)
	if f != e || g != e {
		t.Errorf("%v: Verify %v, Run %v, Encode %v", p, e, f, g)
	}
	if e != api.OK && (steps != 0 || stack != 0 || done != 0 || len(b) != 0 || !same(a, api.Answer{})) {
		t.Errorf("%v: %v with %d, %d, %v, %d, %v", p, e, steps, stack, a, done, b)
	}
	return e
}

// same: are two answers? A list without elements may be nil or not.
func same(a, b api.Answer) bool {
	return a.Clock == b.Clock && slices.Equal(a.Offsets, b.Offsets) && a.Jump == b.Jump
}

// P5.2: each thing that may be wrong, and of two the one that the document names first.
func TestFaultsOfPrograms(t *testing.T) {
	if e := refused(t, sampleProgram()); e != api.OK {
		t.Fatalf("sample: %v", e)
	}
	ranks := programFaults()
	for i, rank := range ranks {
		for _, f := range rank {
			p := sampleProgram()
			f.do(&p)
			if e := refused(t, p); e != f.want {
				t.Errorf("%s: %v, want %v", f.what, e, f.want)
			}
			for _, g := range slices.Concat(ranks[i+1:]...) {
				p := sampleProgram()
				g.do(&p)
				f.do(&p)
				if _, _, e := Verify(p); e != f.want {
					t.Errorf("%s, and %s: %v, want %v", f.what, g.what, e, f.want)
				}
			}
		}
	}
}

// P5.2: a program without a pool, or without answers, has no place in them.
func TestProgramsWithoutLists(t *testing.T) {
	for _, c := range []struct {
		code string
		want api.Errno
	}{{"tell 0", api.ErrRange}, {"push 0; arg", api.ErrRange}, {"arg", api.ErrShort}, {"less", api.ErrStack}} {
		if e := refused(t, api.Program{Code: instrs(c.code)}); e != c.want {
			t.Errorf("%s: %v, want %v", c.code, e, c.want)
		}
	}
	if e := refused(t, api.Program{Pool: make([]int, 9999), Answers: []api.Answer{{Jump: math.MaxInt}}}); e != api.ErrNone {
		t.Errorf("no code: %v", e)
	}
}

// greatestProgram: as much code, as many numbers and answers as may be, as long as may be in bytes; the first instruction leaves out all but the last one.
func greatestProgram() api.Program {
	p := api.Program{Code: []api.Instr{{Op: api.Go, N: api.MaxCode - 2}}}
	for i := 1; i < api.MaxCode; i++ {
		p.Code = append(p.Code, api.Instr{Op: api.Push, N: (i * 7) % api.MaxPool})
	}
	p.Code[api.MaxCode-1] = api.Instr{Op: api.Tell, N: api.MaxAnswers - 1}
	for i := range api.MaxPool {
		p.Pool = append(p.Pool, math.MinInt+i)
	}
	for i := range api.MaxAnswers {
		p.Answers = append(p.Answers, api.Answer{
			Clock:   api.Clock{Offset: -offsetLimit, Saving: true, Name: strings.Repeat("\xff", nameLimit)},
			Offsets: slices.Repeat([]int{offsetLimit}, api.MaxList),
			Jump:    jumpLimit - i,
		})
	}
	return p
}

// P5.2, P5.3: the limits themselves.
func TestTheGreatestProgram(t *testing.T) {
	p := greatestProgram()
	if steps, stack, e := Verify(p); steps != 2 || stack != 0 || e != api.OK {
		t.Errorf("%d, %d, %v", steps, stack, e)
	}
	a, steps, e := Run(p, 0)
	if !same(a, p.Answers[api.MaxAnswers-1]) || steps != 2 || e != api.OK {
		t.Errorf("%v, %d, %v", a, steps, e)
	}
	p.Code = append(slices.Repeat(instrs("arg; skip 0"), api.MaxCode/2-1), instrs("go 0; tell 7")...)
	if steps, stack, e := Verify(p); steps != api.MaxCode || stack != 1 || e != api.OK {
		t.Errorf("%d, %d, %v", steps, stack, e)
	}
	if a, steps, e := Run(p, 1); a.Jump != jumpLimit-7 || steps != api.MaxCode || e != api.OK {
		t.Errorf("%v, %d, %v", a, steps, e)
	}
}

// P5.3: what ways do to the stack, and where they lead.
func TestWaysThroughCode(t *testing.T) {
	for _, c := range []struct {
		code         string
		steps, stack int
		want         api.Errno
	}{
		{"tell 0", 1, 0, api.OK},
		{"arg; tell 0", 2, 1, api.OK},
		{"arg; push 0; less; skip 1; tell 0; tell 1", 5, 2, api.OK},
		{"arg; skip 2; arg; tell 1; tell 0", 4, 1, api.OK},
		{"arg; skip 1; tell 1; arg; arg; tell 0", 5, 2, api.OK},
		{"arg; skip 1; go 1; go 1; arg; tell 0", 0, 0, api.ErrForm},
		{"arg; skip 1; go 2; go 0; go 0; tell 0", 5, 1, api.OK},
		{"arg; skip 0; tell 0", 3, 1, api.OK},
		// fewer than it takes
		{"less; tell 0", 0, 0, api.ErrStack},
		{"arg; less; tell 0", 0, 0, api.ErrStack},
		{"arg; arg; less; less; tell 0", 0, 0, api.ErrStack},
		{"skip 0; tell 0", 0, 0, api.ErrStack},
		{"push 0; skip 0; skip 0; tell 0", 0, 0, api.ErrStack},
		// more than MaxStack
		{"arg*8; tell 0", 9, 8, api.OK},
		{"arg*8; less; push 0; skip 0; tell 0", 12, 8, api.OK},
		{"arg*9; tell 0", 0, 0, api.ErrStack},
		{"arg*8; push 0; tell 0", 0, 0, api.ErrStack},
		{"push*8; skip 0; arg*2; tell 0", 0, 0, api.ErrStack},
		// behind all
		{"arg", 0, 0, api.ErrShort},
		{"push 0", 0, 0, api.ErrShort},
		{"arg*2; less", 0, 0, api.ErrShort},
		{"arg; skip 1; tell 0; arg", 0, 0, api.ErrShort},
		{"arg*9", 0, 0, api.ErrStack},
		{"arg; less", 0, 0, api.ErrStack},
		// another number on the stack
		{"arg; skip 1; arg; tell 0", 0, 0, api.ErrForm},
		{"arg*2; skip 1; skip 0; tell 0", 0, 0, api.ErrForm},
		{"arg; skip 1; arg; go 0; tell 0", 0, 0, api.ErrForm},
		{"arg; skip 2; arg; go 0; tell 0", 0, 0, api.ErrForm},
		{"arg; skip 2; arg; go 1; tell 0; tell 0", 5, 1, api.OK},
		// instruction by instruction
		{"arg; skip 1; arg; less; tell 0", 0, 0, api.ErrForm},
		{"arg; skip 2; less; arg; tell 0", 0, 0, api.ErrStack},
		{"arg; skip 4; arg*2; skip 1; less; tell 0", 0, 0, api.ErrForm},
		{"arg; skip 2; arg; go 0; arg", 0, 0, api.ErrForm},
		{"arg; skip 1; less; arg", 0, 0, api.ErrStack},
		// what no way leads to does not count
		{"tell 0; arg", 1, 0, api.OK},
		{"tell 0; less; arg*9", 1, 0, api.OK},
		{"go 2; less; arg; tell 0", 2, 0, api.OK},
		{"go 3; less; arg; tell 0", 0, 0, api.ErrRange},
		{"go 1; less; tell 0", 2, 0, api.OK},
		{"arg; go 1; arg; tell 0", 3, 1, api.OK},
		{"go 2; arg*2; tell 0; arg", 2, 0, api.OK},
	} {
		steps, stack, e := Verify(programOf(c.code))
		if steps != c.steps || stack != c.stack || e != c.want {
			t.Errorf("%s: %d, %d, %v, want %d, %d, %v", c.code, steps, stack, e, c.steps, c.stack, c.want)
		}
		refused(t, programOf(c.code))
	}
}

// P5.2, P5.3: what is wrong with instructions by themselves is told first, wherever they stand.
func TestInstructionsAheadOfWays(t *testing.T) {
	for _, code := range []string{"less; tell 0", "arg", "arg; skip 1; arg; tell 0", "tell 0"} {
		for _, c := range []struct {
			x    api.Instr
			want api.Errno
		}{{api.Instr{Op: 7}, api.ErrKind}, {api.Instr{Op: api.Less, N: 1}, api.ErrRange}, {api.Instr{Op: api.Go}, api.ErrRange}} {
			p := programOf(code)
			p.Code = append(p.Code, c.x)
			if e := refused(t, p); e != c.want {
				t.Errorf("%s, and %v: %v, want %v", code, c.x, e, c.want)
			}
		}
	}
}

// step of a way: from an instruction to another one, or to behind all, with so many on the stack then.
type step struct{ from, to, stack int }

// plainWays: what the chapter says of all ways through code, each of them gone by itself.
func plainWays(code []api.Instr) (int, int, api.Errno) {
	takes := map[int]int{api.Less: 2, api.Skip: 1}
	lays := map[int]int{api.Arg: 1, api.Push: 1, api.Less: 1}
	most, high := 0, 0
	low := map[int]bool{} // at which instructions the stack may not be
	var all []step
	var walk func(at, stack, done int)
	walk = func(at, stack, done int) {
		if at == len(code) {
			return
		}
		x := code[at]
		then := stack - takes[x.Op] + lays[x.Op]
		if stack < takes[x.Op] || then > api.MaxStack {
			low[at] = true
			return
		}
		most, high = max(most, done+1), max(high, then)
		var to []int
		if x.Op != api.Tell && x.Op != api.Go {
			to = append(to, at+1)
		}
		if x.Op == api.Skip || x.Op == api.Go {
			to = append(to, at+1+x.N)
		}
		for _, n := range to {
			all = append(all, step{at, n, then})
			walk(n, then, done+1)
		}
	}
	walk(0, 0, 0)
	for at := range code {
		for _, s := range all {
			for _, ahead := range all {
				switch {
				case low[at]:
					return 0, 0, api.ErrStack
				case s.from == at && s.to == len(code):
					return 0, 0, api.ErrShort
				case s.from == at && ahead.from <= at && s.to == ahead.to && s.stack != ahead.stack:
					return 0, 0, api.ErrForm
				}
			}
		}
		if low[at] { // at the first one, ahead of all steps
			return 0, 0, api.ErrStack
		}
	}
	return most, high, api.OK
}

// code that looks drawn: mostly with a stack that may be.
func (d *die) code() []api.Instr {
	many := 1 + d.below(14)
	var l []api.Instr
	for i := range many {
		behind := many - i + 1
		x := api.Instr{Op: 1 + d.below(6)}
		switch x.Op {
		case api.Push:
			x.N = d.below(5)
		case api.Skip, api.Go:
			x.N = d.below(min(behind, 4))
		case api.Tell:
			x.N = d.below(4)
		}
		l = append(l, x)
	}
	return append(l, api.Instr{Op: api.Tell}, api.Instr{Op: 1 + 5*d.below(2)})
}

// P5.3: drawn code, held against all ways, each gone by itself.
func TestDrawnWays(t *testing.T) {
	d := die(1)
	seen := map[api.Errno]int{}
	for range 40000 {
		p := programOf("tell 0")
		p.Code = d.code()
		steps, stack, e := Verify(p)
		wantSteps, wantStack, want := plainWays(p.Code)
		if steps != wantSteps || stack != wantStack || e != want {
			t.Fatalf("%v: %d, %d, %v, want %d, %d, %v", p.Code, steps, stack, e, wantSteps, wantStack, want)
		}
		seen[e]++
	}
	for _, e := range []api.Errno{api.OK, api.ErrStack, api.ErrShort, api.ErrForm} {
		if seen[e] < 10 {
			t.Errorf("%v only %d times", e, seen[e])
		}
	}
}
