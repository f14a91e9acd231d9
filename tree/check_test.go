package tree

import (
	"fmt"
	"math"
	"slices"
	"strings"
	"testing"

	"sundial/api"
)

// The window's beginning and end.
const (
	begin = -2208988800
	end   = 4102444800
)

// Limits of this chapter, as it says them.
const (
	offsetLimit = 2 * 86400
	nameLimit   = 24
	jumpLimit   = 1 << 40
)

// fault: something that is made wrong.
type fault[T any] struct {
	what string
	want api.Errno
	do   func(*T)
}

// faults of one rank: which of them is met first, none can tell.
type faults[T any] []fault[T]

// holdFaults: each fault by itself, and of two the one that the document names first. What is wrong is made anew each time.
func holdFaults[T any](t *testing.T, sample func() T, ranks []faults[T], check func(T) api.Errno) {
	t.Helper()
	if e := check(sample()); e != api.OK {
		t.Errorf("sample: %v", e)
	}
	for i, rank := range ranks {
		for _, f := range rank {
			x := sample()
			f.do(&x)
			if e := check(x); e != f.want {
				t.Errorf("%s: %v, want %v", f.what, e, f.want)
			}
			for _, g := range slices.Concat(ranks[i+1:]...) {
				x := sample()
				g.do(&x)
				f.do(&x)
				if e := check(x); e != f.want {
					t.Errorf("%s, and %s: %v, want %v", f.what, g.what, e, f.want)
				}
			}
		}
	}
}

func span(from, offset int, name string) api.Span {
	return api.Span{From: from, Clock: api.Clock{Offset: offset, Name: name}}
}

func sampleSpans() []api.Span {
	return []api.Span{span(begin, 0, "A"), span(-5, 3600, "B"), span(900, -60, "C"), span(7000, 0, "A")}
}

// spanFaults: of one of the sample's spans.
func spanFaults(i int) []faults[[]api.Span] {
	wrong := func(how string, want api.Errno, change func(l []api.Span)) fault[[]api.Span] {
		return fault[[]api.Span]{fmt.Sprint("span ", i, " ", how), want, func(l *[]api.Span) { change(*l) }}
	}
	early := begin + 1
	if i > 0 {
		early = sampleSpans()[i-1].From
	}
	return []faults[[]api.Span]{{
		wrong("with a long name", api.ErrSize, func(l []api.Span) { l[i].Clock.Name = strings.Repeat("x", nameLimit+1) }),
	}, {
		wrong("ahead of the window", api.ErrRange, func(l []api.Span) { l[i].From = begin - 1 }),
		wrong("far ahead of the window", api.ErrRange, func(l []api.Span) { l[i].From = math.MinInt }),
		wrong("behind the window", api.ErrRange, func(l []api.Span) { l[i].From = end }),
		wrong("far behind the window", api.ErrRange, func(l []api.Span) { l[i].From = math.MaxInt }),
		wrong("with an offset below", api.ErrRange, func(l []api.Span) { l[i].Clock.Offset = -offsetLimit - 1 }),
		wrong("with an offset above", api.ErrRange, func(l []api.Span) { l[i].Clock.Offset = offsetLimit + 1 }),
		wrong("with the least offset", api.ErrRange, func(l []api.Span) { l[i].Clock.Offset = math.MinInt }),
	}, {
		wrong("not in order", api.ErrOrder, func(l []api.Span) { l[i].From = early }),
	}}
}

// refusedSpans: what both calls refuse of spans; with an error they answer nothing beside it.
func refusedSpans(t *testing.T) func(l []api.Span) api.Errno {
	return func(l []api.Span) api.Errno {
		t.Helper()
		f, e := Forward(l)
		g, h := Inverse(l)
		if e != h {
			t.Errorf("%v: Forward %v, Inverse %v", l, e, h)
		}
		if (len(f.Nodes) == 0) != (e != api.OK) || (len(f.Answers) == 0) != (e != api.OK) || (len(g.Nodes) == 0) != (e != api.OK) || (len(g.Answers) == 0) != (e != api.OK) {
			t.Errorf("%v: %v with %v and %v", l, e, f, g)
		}
		return e
	}
}

// P4.1: each thing that may be wrong, and which of two is told.
func TestFaultsOfSpans(t *testing.T) {
	ranks := []faults[[]api.Span]{{
		{"no spans", api.ErrNone, func(l *[]api.Span) { *l = nil }},
		{"no spans, but room", api.ErrNone, func(l *[]api.Span) { *l = (*l)[:0] }},
	}, {
		{"too many", api.ErrSize, func(l *[]api.Span) {
			for n := 8000; len(*l) <= api.MaxSpans; n++ {
				*l = append(*l, span(n, 0, "A"))
			}
		}},
	}}
	for i := range sampleSpans() {
		ranks = append(ranks, spanFaults(i)...)
	}
	holdFaults(t, sampleSpans, ranks, refusedSpans(t))
}

// P4.1: the edges of what may be.
func TestSpansAtTheirEdges(t *testing.T) {
	refused := refusedSpans(t)
	long := strings.Repeat("\xff", nameLimit)
	for _, l := range [][]api.Span{
		{span(begin, 0, "")},
		{span(begin, offsetLimit, long), span(begin+1, -offsetLimit, long)},
		{span(begin, -offsetLimit, long), span(end-1, offsetLimit, long)},
		{span(begin, 60, "A"), span(0, 60, "A")}, // no error says that clocks may not stay the same
	} {
		if e := refused(l); e != api.OK {
			t.Errorf("%v: %v", l, e)
		}
	}
}

// P4.1, P4.2: as many spans as may be, and one more.
func TestHowManySpans(t *testing.T) {
	var l []api.Span
	for i := range api.MaxSpans {
		l = append(l, span(begin+i*1000, i%7, fmt.Sprint(i%7)))
	}
	if e := refusedSpans(t)(l); e != api.OK {
		t.Errorf("%d spans: %v", len(l), e)
	}
	if e := refusedSpans(t)(append(l, span(end-1, 0, ""))); e != api.ErrSize {
		t.Errorf("a span more: %v", e)
	}
}

func sampleAnswer() api.Answer {
	return api.Answer{Clock: api.Clock{Offset: 60, Saving: true, Name: "A"}, Offsets: []int{3, 2, 1}, Jump: 9}
}

// answerFaults: what is wrong with an answer.
func answerFaults() []faults[api.Answer] {
	ranges := faults[api.Answer]{}
	for _, n := range []int{-offsetLimit - 1, offsetLimit + 1, math.MinInt, math.MaxInt} {
		ranges = append(ranges, fault[api.Answer]{fmt.Sprint("offset ", n), api.ErrRange, func(a *api.Answer) { a.Clock.Offset = n }})
		for i := range 3 {
			ranges = append(ranges, fault[api.Answer]{fmt.Sprint("offset ", n, " at ", i), api.ErrRange, func(a *api.Answer) { a.Offsets[i] = n }})
		}
		ranges = append(ranges, fault[api.Answer]{fmt.Sprint("offset ", n, " at the end"), api.ErrRange, func(a *api.Answer) { a.Offsets = append(a.Offsets, n) }})
	}
	for _, n := range []int{-jumpLimit - 1, jumpLimit + 1, math.MinInt, math.MaxInt} {
		ranges = append(ranges, fault[api.Answer]{fmt.Sprint("jump ", n), api.ErrRange, func(a *api.Answer) { a.Jump = n }})
	}
	return []faults[api.Answer]{ranges, {
		{"too many offsets", api.ErrSize, func(a *api.Answer) { a.Offsets = append(a.Offsets, 4, 4, 4, 4) }},
		{"far too many offsets", api.ErrSize, func(a *api.Answer) { a.Offsets = append(a.Offsets, make([]int, 9999)...) }},
		{"a long name", api.ErrSize, func(a *api.Answer) { a.Clock.Name = strings.Repeat("x", nameLimit+1) }},
	}}
}

// P4.4: each thing that may be wrong with an answer, and which of two is told.
func TestFaultsOfAnswers(t *testing.T) {
	holdFaults(t, sampleAnswer, answerFaults(), CheckAnswer)
}

// P4.4: the edges of what may be.
func TestAnswersAtTheirEdges(t *testing.T) {
	long := strings.Repeat("\x00", nameLimit)
	for _, a := range []api.Answer{
		{},
		{Offsets: []int{}},
		{Clock: api.Clock{Offset: offsetLimit, Name: long}, Offsets: []int{offsetLimit, -offsetLimit, 0, 0, 0, 0}, Jump: jumpLimit},
		{Clock: api.Clock{Offset: -offsetLimit, Saving: true}, Jump: -jumpLimit},
	} {
		if e := CheckAnswer(a); e != api.OK {
			t.Errorf("%v: %v", a, e)
		}
	}
}

func leaf(answer int) api.Node { return api.Node{Leaf: true, Answer: answer} }

func node(bound, less, more int) api.Node { return api.Node{Bound: bound, Less: less, More: more} }

func sampleForest() api.Forest {
	return api.Forest{
		Nodes:   []api.Node{leaf(1), leaf(0), node(0, 0, 1), node(-7, 2, 0), leaf(2), node(100, 3, 4)},
		Answers: []api.Answer{sampleAnswer(), {Clock: api.Clock{Name: "B"}, Offsets: []int{5, 6, 7}}, {Offsets: []int{1, 1, 1}, Jump: 4}},
	}
}

// nodeFaults: of one of the sample's nodes.
func nodeFaults(i int) []faults[api.Forest] {
	wrong := func(how string, want api.Errno, change func(n *api.Node)) fault[api.Forest] {
		return fault[api.Forest]{fmt.Sprint("node ", i, " ", how), want, func(f *api.Forest) { change(&f.Nodes[i]) }}
	}
	if sampleForest().Nodes[i].Leaf {
		return []faults[api.Forest]{{
			wrong("with an answer below", api.ErrRange, func(n *api.Node) { n.Answer = -1 }),
			wrong("with an answer above", api.ErrRange, func(n *api.Node) { n.Answer = 3 }),
			wrong("with the least answer", api.ErrRange, func(n *api.Node) { n.Answer = math.MinInt }),
		}, {
			wrong("with a bound", api.ErrForm, func(n *api.Node) { n.Bound = math.MinInt }),
			wrong("with less", api.ErrForm, func(n *api.Node) { n.Less = -1 }),
			wrong("with more", api.ErrForm, func(n *api.Node) { n.More = 1 }),
		}}
	}
	return []faults[api.Forest]{{
		wrong("with an answer", api.ErrForm, func(n *api.Node) { n.Answer = 1 }),
		wrong("with an answer that there is not", api.ErrForm, func(n *api.Node) { n.Answer = -1 }),
	}, {
		wrong("with itself as less", api.ErrOrder, func(n *api.Node) { n.Less = i }),
		wrong("with itself as more", api.ErrOrder, func(n *api.Node) { n.More = i }),
		wrong("with one behind it", api.ErrOrder, func(n *api.Node) { n.Less = i + 1 }),
		wrong("with one below as less", api.ErrOrder, func(n *api.Node) { n.Less = -1 }),
		wrong("with one below as more", api.ErrOrder, func(n *api.Node) { n.More = math.MinInt }),
		wrong("with one above", api.ErrOrder, func(n *api.Node) { n.More = math.MaxInt }),
	}}
}

// forestFaults in the document's order.
func forestFaults() []faults[api.Forest] {
	ranks := []faults[api.Forest]{{
		{"no nodes", api.ErrNone, func(f *api.Forest) { f.Nodes = f.Nodes[:0] }},
	}, {
		{"too many nodes", api.ErrSize, func(f *api.Forest) {
			f.Nodes = append(f.Nodes, make([]api.Node, api.MaxCode+1-len(f.Nodes))...)
		}},
		{"too many answers", api.ErrSize, func(f *api.Forest) {
			f.Answers = append(f.Answers, make([]api.Answer, api.MaxAnswers+1-len(f.Answers))...)
		}},
	}}
	for i := range sampleForest().Answers {
		for _, rank := range answerFaults() {
			var of faults[api.Forest]
			for _, x := range rank {
				of = append(of, fault[api.Forest]{fmt.Sprint("answer ", i, " with ", x.what), x.want, func(f *api.Forest) { x.do(&f.Answers[i]) }})
			}
			ranks = append(ranks, of)
		}
	}
	for i := range sampleForest().Nodes {
		ranks = append(ranks, nodeFaults(i)...)
	}
	return ranks
}

// P4.4, P4.5, P4.6: each thing that may be wrong with a forest, and which of two is told: by all calls, and ahead of wrong ways.
func TestFaultsOfForests(t *testing.T) {
	holdFaults(t, sampleForest, forestFaults(), func(f api.Forest) api.Errno {
		e := Check(f)
		a, h := Eval(f, 0)
		if h != e || e != api.OK && !same(a, api.Answer{}) {
			t.Errorf("%v: Check says %v, Eval %v, %v", f, e, a, h)
		}
		for _, ways := range []int{0, 1, 2, 4, 7, 8, -1} {
			g, h := Opt(f, ways)
			if e != api.OK && (h != e || len(g.Nodes) != 0 || len(g.Answers) != 0) {
				t.Errorf("%v: Check says %v, Opt %v, %v", f, e, g, h)
			}
		}
		return e
	})
}

// P4.4: there may be no answers only where no leaf can be, and a first node is a leaf.
func TestForestsWithoutAnswers(t *testing.T) {
	if e := Check(api.Forest{Nodes: []api.Node{leaf(0)}}); e != api.ErrRange {
		t.Errorf("a leaf: %v", e)
	}
	if e := Check(api.Forest{Nodes: []api.Node{node(0, 0, 0)}}); e != api.ErrOrder {
		t.Errorf("a node: %v", e)
	}
	if e := Check(api.Forest{Answers: []api.Answer{{Jump: math.MaxInt}}}); e != api.ErrNone {
		t.Errorf("no node: %v", e)
	}
}

// P4.4: as many nodes and answers as may be; nodes and answers that nothing leads to, too.
func TestTheGreatestForest(t *testing.T) {
	f := api.Forest{Answers: make([]api.Answer, api.MaxAnswers)}
	for i := range api.MaxCode - 1 {
		f.Nodes = append(f.Nodes, leaf(i%api.MaxAnswers))
	}
	f.Nodes = append(f.Nodes, node(math.MaxInt, api.MaxCode-2, 0))
	if e := Check(f); e != api.OK {
		t.Errorf("%v", e)
	}
}

// same: are two answers? A list without elements may be nil or not.
func same(a, b api.Answer) bool {
	return a.Clock == b.Clock && slices.Equal(a.Offsets, b.Offsets) && a.Jump == b.Jump
}
