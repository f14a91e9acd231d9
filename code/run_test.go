package code

import (
	"math"
	"slices"
	"testing"

	"sundial/api"
	"sundial/tree"
)

// P5.1, P5.4: what each operator does, told by answers and steps.
func TestRun(t *testing.T) {
	const least, greatest = math.MinInt, math.MaxInt
	for _, c := range []struct {
		code             string
		n, answer, steps int
	}{
		{"tell 3", 7, 3, 1},
		// Arg, Push, Less: the lower one is less than the upper one
		{"arg; push 1; less; skip 1; tell 1; tell 2", 4, 1, 5},
		{"arg; push 1; less; skip 1; tell 1; tell 2", 5, 2, 5},
		{"arg; push 1; less; skip 1; tell 1; tell 2", 6, 2, 5},
		{"push 1; arg; less; skip 1; tell 1; tell 2", 5, 2, 5},
		{"push 1; arg; less; skip 1; tell 1; tell 2", 6, 1, 5},
		{"arg; push 3; less; skip 1; tell 1; tell 2", least, 2, 5},
		{"push 3; arg; less; skip 1; tell 1; tell 2", least, 2, 5},
		{"push 3; arg; less; skip 1; tell 1; tell 2", least + 1, 1, 5},
		{"arg; push 4; less; skip 1; tell 1; tell 2", greatest, 2, 5},
		{"arg; push 4; less; skip 1; tell 1; tell 2", greatest - 1, 1, 5},
		{"arg; push 4; less; skip 1; tell 1; tell 2", least, 1, 5},
		// Less leaves 1 or 0, and what is below it
		{"push 0; arg; push 1; less; less; skip 1; tell 1; tell 2", 4, 1, 7},
		{"push 0; arg; push 1; less; less; skip 1; tell 1; tell 2", 5, 2, 7},
		{"arg; push 1; arg; less; less; skip 1; tell 1; tell 2", 0, 2, 7},
		{"arg; push 1; arg; less; less; skip 1; tell 1; tell 2", -1, 1, 7},
		{"arg; push 2; less; arg; less; skip 1; tell 1; tell 2", 1, 1, 7},
		{"arg; push 2; less; arg; less; skip 1; tell 1; tell 2", 0, 2, 7},
		{"arg; arg; push 1; less; skip 2; skip 2; tell 0; skip 1; tell 1; tell 2", 4, 0, 7},
		{"arg; arg; push 1; less; skip 2; skip 2; tell 0; skip 1; tell 1; tell 2", 0, 1, 7},
		{"arg; arg; push 1; less; skip 2; skip 2; tell 0; skip 1; tell 1; tell 2", 6, 1, 7},
		// Skip: only 0 leaves out
		{"arg; skip 1; tell 1; tell 2", 0, 2, 3},
		{"arg; skip 1; tell 1; tell 2", 1, 1, 3},
		{"arg; skip 1; tell 1; tell 2", -1, 1, 3},
		{"arg; skip 1; tell 1; tell 2", least, 1, 3},
		{"arg; skip 0; tell 1; tell 2", 0, 1, 3},
		{"arg; skip 2; tell 1; tell 2; tell 3", 0, 3, 3},
		{"push 0; arg; skip 2; skip 3; tell 0; skip 0; tell 1; tell 2", 9, 2, 5},
		{"push 0; arg; skip 2; skip 3; tell 0; skip 0; tell 1; tell 2", 0, 1, 5},
		// Go
		{"go 0; tell 1; tell 2", 0, 1, 2},
		{"go 1; tell 1; tell 2", 0, 2, 2},
		{"go 2; tell 1; tell 2; go 1; tell 1; tell 3", 0, 3, 3},
	} {
		p := programOf(c.code)
		a, steps, e := Run(p, c.n)
		if !same(a, p.Answers[c.answer]) || steps != c.steps || e != api.OK {
			t.Errorf("%s for %d: %v, %d, %v, want %d, %d", c.code, c.n, a, steps, e, c.answer, c.steps)
		}
	}
}

// P5.4: all of an answer is told.
func TestRunTellsAllOfAnAnswer(t *testing.T) {
	p := sampleProgram()
	for _, c := range []struct{ n, answer int }{{-8, 0}, {-7, 2}, {100, 2}} {
		if a, _, e := Run(p, c.n); !same(a, p.Answers[c.answer]) || e != api.OK {
			t.Errorf("%d: %v, %v", c.n, a, e)
		}
	}
}

// plainRun: what a program that may be run does, each instruction as P5.1 says it.
func plainRun(p api.Program, n int) (int, int) {
	var stack []int
	at, steps := 0, 0
	for {
		x := p.Code[at]
		at, steps = at+1, steps+1
		top := len(stack) - 1
		if x.Op == api.Tell {
			return x.N, steps
		}
		if x.Op == api.Go || x.Op == api.Skip && stack[top] == 0 {
			at += x.N
		}
		switch {
		case x.Op == api.Arg:
			stack = append(stack, n)
		case x.Op == api.Push:
			stack = append(stack, p.Pool[x.N])
		case x.Op == api.Skip:
			stack = stack[:top]
		case x.Op == api.Less && stack[top-1] < stack[top]:
			stack = append(stack[:top-1], 1)
		case x.Op == api.Less:
			stack = append(stack[:top-1], 0)
		}
	}
}

// P5.3, P5.4: drawn programs; none does more than Verify says.
func TestDrawnRuns(t *testing.T) {
	d := die(2)
	for range 40000 {
		p := programOf("tell 0")
		p.Code = d.code()
		most, _, e := Verify(p)
		if e != api.OK {
			continue
		}
		for _, n := range []int{math.MinInt, -6, -5, -1, 0, 1, 4, 5, 6, math.MaxInt} {
			want, wantSteps := plainRun(p, n)
			a, steps, e := Run(p, n)
			if a.Jump != want || steps != wantSteps || steps > most || e != api.OK {
				t.Fatalf("%v for %d: %v, %d, %v, want %d, %d of %d", p.Code, n, a, steps, e, want, wantSteps, most)
			}
		}
	}
}

func leaf(answer int) api.Node { return api.Node{Leaf: true, Answer: answer} }

func node(bound, less, more int) api.Node { return api.Node{Bound: bound, Less: less, More: more} }

func sampleForest() api.Forest {
	return api.Forest{
		Nodes:   []api.Node{leaf(1), leaf(0), node(0, 0, 1), node(-7, 2, 0), leaf(2), node(100, 3, 4)},
		Answers: sampleProgram().Answers,
	}
}

// points: numbers of each part in which a forest tells one answer.
func points(f api.Forest) []int {
	l := []int{math.MinInt, math.MaxInt}
	for _, n := range f.Nodes {
		if !n.Leaf {
			l = append(l, n.Bound, max(n.Bound, math.MinInt+1)-1)
		}
	}
	slices.Sort(l)
	return slices.Compact(l)
}

// holdGen: a program that may be run, and tells what a forest does.
func holdGen(t *testing.T, f api.Forest) api.Program {
	t.Helper()
	p, e := Gen(f)
	if e != api.OK {
		t.Fatalf("%d nodes: %v", len(f.Nodes), e)
	}
	most, _, e := Verify(p)
	if e != api.OK {
		t.Fatalf("%v may not be run: %v\n%v", p, e, f)
	}
	at := points(f)
	for i := 0; i < len(at); i += 1 + len(at)/200 {
		want, _ := tree.Eval(f, at[i])
		a, steps, e := Run(p, at[i])
		if !same(a, want) || steps > most || e != api.OK {
			t.Fatalf("at %d: %v, %d, %v, want %v of %d\n%v\n%v", at[i], a, steps, e, want, most, f, p)
		}
	}
	return p
}

// P5.4: a leaf, a node, Bounds at the ends of all numbers, nodes that nothing leads to, and such that lead twice to one.
func TestGen(t *testing.T) {
	answers := sampleForest().Answers
	for _, nodes := range [][]api.Node{
		{leaf(2)},
		{leaf(2), leaf(1)},
		{leaf(2), leaf(1), node(5, 0, 1)},
		{leaf(2), leaf(1), node(5, 1, 0)},
		{leaf(2), leaf(1), node(math.MinInt, 0, 1)},
		{leaf(2), leaf(1), node(math.MaxInt, 0, 1)},
		{leaf(2), leaf(1), node(math.MinInt, 0, 1), node(math.MaxInt, 1, 2)},
		{leaf(2), node(0, 0, 0), node(0, 1, 1), node(9, 1, 1)},
		{leaf(2), leaf(1), leaf(0), node(5, 0, 1), node(7, 3, 2), node(3, 4, 3), node(6, 3, 5), node(4, 5, 3)},
		sampleForest().Nodes,
	} {
		holdGen(t, api.Forest{Nodes: nodes, Answers: answers})
	}
}

// P5.4: what Check refuses.
func TestForestsThatGenRefuses(t *testing.T) {
	for i, c := range []struct {
		want api.Errno
		do   func(f *api.Forest)
	}{
		{api.ErrNone, func(f *api.Forest) { f.Nodes = nil }},
		{api.ErrSize, func(f *api.Forest) { f.Nodes = make([]api.Node, api.MaxCode+1) }},
		{api.ErrSize, func(f *api.Forest) { f.Answers = make([]api.Answer, api.MaxAnswers+1) }},
		{api.ErrRange, func(f *api.Forest) { f.Answers[1].Jump = jumpLimit + 1 }},
		{api.ErrSize, func(f *api.Forest) { f.Answers[1].Offsets = make([]int, api.MaxList+1) }},
		{api.ErrRange, func(f *api.Forest) { f.Nodes[1].Answer = 3 }},
		{api.ErrForm, func(f *api.Forest) { f.Nodes[1].Bound = 3 }},
		{api.ErrForm, func(f *api.Forest) { f.Nodes[2].Answer = 1 }},
		{api.ErrOrder, func(f *api.Forest) { f.Nodes[3].Less = 3 }},
		{api.ErrOrder, func(f *api.Forest) { f.Nodes[3].More = -1 }},
	} {
		f := sampleForest()
		c.do(&f)
		p, e := Gen(f)
		if e != c.want || e != tree.Check(f) || len(p.Code)+len(p.Pool)+len(p.Answers) != 0 {
			t.Errorf("%d: %v, %v, want %v", i, p, e, c.want)
		}
	}
}

// forest that looks drawn, with so many nodes; leaves among them are rare, if there are many nodes.
func (d *die) forest(many int) api.Forest {
	f := api.Forest{Nodes: []api.Node{leaf(d.below(3))}, Answers: sampleForest().Answers}
	reach, wide := []int{1, 2, 6, 40}[d.below(4)], []int{3, 30, 10000}[d.below(3)]
	for n := 1; n < many; n++ {
		bound := d.below(wide) - wide/2
		if d.below(20) == 0 {
			bound = []int{math.MinInt, math.MinInt + 1, math.MaxInt}[d.below(3)]
		}
		if d.below(3+many/9) == 0 {
			f.Nodes = append(f.Nodes, leaf(d.below(3)))
		} else {
			f.Nodes = append(f.Nodes, node(bound, n-1-d.below(min(n, reach)), n-1-d.below(min(n, reach))))
		}
	}
	return f
}

// P5.4: drawn forests.
func TestGenOfDrawnForests(t *testing.T) {
	d := die(3)
	for range 3000 {
		holdGen(t, d.forest(1+d.below(30)))
	}
	for range 30 {
		holdGen(t, d.forest(1000))
	}
}

// comb: a forest with so many nodes, as deep as can be: on the one side of each node a leaf, on the other one the rest.
func comb(nodes int, less, shared bool) api.Forest {
	f := api.Forest{Nodes: []api.Node{leaf(0)}, Answers: sampleForest().Answers}
	for i := 1; len(f.Nodes)+2 <= nodes; i++ {
		rest, side := len(f.Nodes)-1, 0
		if !shared {
			f.Nodes = append(f.Nodes, leaf(i%3))
			side = len(f.Nodes) - 1
		}
		n := node(-i, side, rest)
		if less {
			n = node(i, rest, side)
		}
		f.Nodes = append(f.Nodes, n)
	}
	return f
}

// P5.4: up to 1000 nodes a program is told, whatever they lead to; of more of them it is, or ErrSize.
func TestGenOfGreatForests(t *testing.T) {
	for _, nodes := range []int{999, 1000, 1001, 1999, 2003, 4001, api.MaxCode} {
		for i := range 4 {
			f := comb(nodes, i&1 > 0, i&2 > 0)
			p, e := Gen(f)
			if nodes <= 1000 || e != api.ErrSize {
				holdGen(t, f)
			} else if len(p.Code)+len(p.Pool)+len(p.Answers) != 0 {
				t.Errorf("%d nodes: ErrSize with %v", nodes, p)
			}
		}
	}
	if _, e := Gen(comb(api.MaxCode, true, false)); e != api.ErrSize {
		t.Errorf("%d nodes: %v", api.MaxCode, e)
	}
}

// P5.4: many nodes, but few that the root leads to: limits would not be passed.
func TestGenLeavesOutWhatNothingLeadsTo(t *testing.T) {
	f := comb(api.MaxCode-3, true, true)
	f.Nodes = append(f.Nodes, leaf(1), leaf(2), node(0, len(f.Nodes), len(f.Nodes)+1))
	if p := holdGen(t, f); len(p.Code) > 9 {
		t.Errorf("%d instructions", len(p.Code))
	}
}

// P5.4: trees of as many spans as chapter 6 asks programs of.
func TestGenOfSpans(t *testing.T) {
	l := []api.Span{{From: -2208988800}}
	for i := range 399 {
		l = append(l, api.Span{From: i * 10000000, Clock: api.Clock{Offset: i%2*3600 - i, Saving: i%2 > 0, Name: "AB"[i%2 : i%2+1]}})
	}
	for _, make := range []func([]api.Span) (api.Forest, api.Errno){tree.Forward, tree.Inverse} {
		f, e := make(l)
		if e != api.OK {
			t.Fatal(e)
		}
		for ways := range 8 {
			g, _ := tree.Opt(f, ways)
			holdGen(t, g)
		}
	}
}
