package tree

import (
	"math"
	"reflect"
	"slices"
	"testing"
	"unsafe"

	"sundial/api"
)

// all ways: each sum of some.
const allWays = 8

// P4.5: a number below the Bound goes to Less, another one to More.
func TestEval(t *testing.T) {
	f := sampleForest()
	for _, c := range []struct{ n, answer int }{
		{math.MinInt, 1}, {-8, 1}, {-7, 1}, {-1, 1}, {0, 1}, {99, 1}, {100, 2}, {math.MaxInt, 2},
	} {
		hold(t, f, c.n, f.Answers[c.answer])
	}
	f.Nodes[3] = node(-7, 0, 2)
	for _, c := range []struct{ n, answer int }{
		{-8, 1}, {-7, 1}, {-1, 1}, {0, 0}, {99, 0}, {100, 2},
	} {
		hold(t, f, c.n, f.Answers[c.answer])
	}
	f.Nodes = f.Nodes[:3] // the last one is the root
	hold(t, f, 100, f.Answers[0])
	f.Nodes = f.Nodes[:1]
	hold(t, f, 100, f.Answers[1])
}

// P4.5: the least number and the greatest one as Bounds.
func TestEvalAtTheEndsOfAllNumbers(t *testing.T) {
	f := api.Forest{Nodes: []api.Node{leaf(0), leaf(1), node(math.MinInt, 0, 1)}, Answers: []api.Answer{{Jump: 1}, {Jump: 2}}}
	for _, n := range []int{math.MinInt, 0, math.MaxInt} {
		hold(t, f, n, api.Answer{Jump: 2})
	}
	f.Nodes[2].Bound = math.MaxInt
	hold(t, f, math.MinInt, api.Answer{Jump: 1})
	hold(t, f, math.MaxInt-1, api.Answer{Jump: 1})
	hold(t, f, math.MaxInt, api.Answer{Jump: 2})
}

// plainAnswer: what a forest that may be tells, and how many nodes are asked.
func plainAnswer(f api.Forest, n int) (api.Answer, int) {
	at, asked := len(f.Nodes)-1, 1
	for ; !f.Nodes[at].Leaf; asked++ {
		if n < f.Nodes[at].Bound {
			at = f.Nodes[at].Less
		} else {
			at = f.Nodes[at].More
		}
	}
	return f.Answers[f.Nodes[at].Answer], asked
}

// bounds: the numbers that are Bounds, rising.
func bounds(f api.Forest) []int {
	var l []int
	for _, n := range f.Nodes {
		if !n.Leaf {
			l = append(l, n.Bound)
		}
	}
	slices.Sort(l)
	return slices.Compact(l)
}

// points: numbers of each part in which two forests tell one answer, rising: the first one and the last one of all numbers, and those on both sides of Bounds.
func points(f, g api.Forest) []int {
	l := []int{math.MinInt, math.MaxInt}
	for _, n := range slices.Concat(bounds(f), bounds(g)) {
		l = append(l, n, max(n, math.MinInt+1)-1)
	}
	slices.Sort(l)
	return slices.Compact(l)
}

// changes of what a forest tells with the number.
func changes(f api.Forest) int {
	many := 0
	ahead, _ := plainAnswer(f, math.MinInt)
	for _, n := range bounds(f) {
		a, _ := plainAnswer(f, n)
		if !same(a, ahead) {
			many++
		}
		ahead = a
	}
	return many
}

// depth that must not be passed: k + 1, of the least k so that there are at most 2^k - 1 changes.
func depth(changes int) int {
	k := 0
	for changes > 1<<k-1 {
		k++
	}
	return k + 1
}

// holdOpt: all that P4.6 promises of a forest, in all ways.
func holdOpt(t *testing.T, f api.Forest) {
	t.Helper()
	var nodes [allWays]int
	changed := changes(f)
	for ways := range allWays {
		g, e := Opt(f, ways)
		if e != api.OK || Check(g) != api.OK {
			t.Fatalf("ways %d: %v, and Check says %v", ways, e, Check(g))
		}
		nodes[ways] = len(g.Nodes)
		deepest := 0
		at := points(f, g)
		if len(f.Nodes) > 2000 { // deep ones take long to ask
			at = append(every(at, 41), math.MaxInt)
		}
		for _, n := range at {
			a, _ := plainAnswer(f, n)
			b, asked := plainAnswer(g, n)
			if !same(a, b) {
				t.Fatalf("ways %d at %d: %v, want %v\n%v\n%v", ways, n, b, a, f, g)
			}
			deepest = max(deepest, asked)
		}
		holdWays(t, f, g, ways, changed, deepest)
	}
	for ways := range allWays {
		if ways&api.Merge != 0 && nodes[ways] > nodes[ways-api.Merge] {
			t.Errorf("ways %d: %d nodes, without Merge %d\n%v", ways, nodes[ways], nodes[ways-api.Merge], f)
		}
	}
}

// holdWays: what each way promises of a forest that has been made of another one, whose answers change so many times; it is so deep.
func holdWays(t *testing.T, f, g api.Forest, ways, changed, deepest int) {
	t.Helper()
	if ways&api.Merge != 0 {
		for i, a := range g.Answers {
			if slices.ContainsFunc(g.Answers[:i], func(b api.Answer) bool { return same(a, b) }) {
				t.Errorf("ways %d: answer %d is there twice\n%v", ways, i, f)
			}
		}
	}
	if ways&api.Share != 0 {
		seen := map[api.Node]bool{}
		for i, n := range g.Nodes {
			if seen[n] {
				t.Errorf("ways %d: node %d is there twice\n%v", ways, i, f)
			}
			seen[n] = true
		}
	}
	if ways&api.Balance != 0 {
		most := min(depth(len(bounds(f))), depth(len(bounds(g))))
		if ways&api.Merge != 0 {
			most = depth(changed)
		}
		if deepest > most {
			t.Errorf("ways %d: %d nodes are asked, at most %d may be\n%v", ways, deepest, most, f)
		}
	}
}

// forest that looks drawn: with trees and nodes that are the same, answers that are, nodes that nothing leads to, and Bounds at the ends of all numbers.
func (d *die) forest() api.Forest {
	f := api.Forest{
		Answers: []api.Answer{
			{Jump: 4}, {Clock: api.Clock{Name: "A"}}, {Offsets: []int{60, 0}}, {Jump: 4, Offsets: []int{}},
			{Offsets: []int{60}}, {Clock: api.Clock{Name: "A", Saving: true}}, {Offsets: []int{0, 60}}, {},
		},
		Nodes: []api.Node{leaf(d.below(8)), leaf(d.below(8))},
	}
	reach, wide, answers := []int{1, 2, 6, 40}[d.below(4)], []int{3, 10, 100}[d.below(3)], []int{1, 2, 4, 8}[d.below(4)]
	for range d.below(60) {
		many := len(f.Nodes)
		bound := d.below(wide)
		switch d.below(20) {
		case 0:
			bound = math.MinInt
		case 1:
			bound = math.MaxInt
		case 2:
			bound = math.MinInt + 1
		}
		if d.below(3) == 0 {
			f.Nodes = append(f.Nodes, leaf(d.below(answers)))
		} else {
			f.Nodes = append(f.Nodes, node(bound, many-1-d.below(min(many, reach)), many-1-d.below(min(many, reach))))
		}
	}
	return f
}

// P4.6: drawn forests, in all ways.
func TestDrawnForests(t *testing.T) {
	d := die(2)
	for range 3000 {
		holdOpt(t, d.forest())
	}
}

// comb: a forest with so many nodes, that is as deep as can be, with leaves that take turns at telling some answers.
func comb(nodes, answers int, shared bool) api.Forest {
	f := api.Forest{}
	for i := range answers {
		f.Answers = append(f.Answers, api.Answer{Jump: i})
		f.Nodes = append(f.Nodes, leaf(i))
	}
	root := 0
	for i := 1; len(f.Nodes)+2 <= nodes; i++ {
		side := i % answers
		if !shared {
			f.Nodes = append(f.Nodes, leaf(side))
			side = len(f.Nodes) - 1
		}
		f.Nodes = append(f.Nodes, node(i*3, root, side))
		root = len(f.Nodes) - 1
	}
	return f
}

// P4.6: deep forests, the greatest ones too, whose leaves are shared or not.
func TestDeepForests(t *testing.T) {
	for _, nodes := range []int{1, 3, 9, 17, 64, 999, 1000, 1001, api.MaxCode} {
		for _, answers := range []int{1, 2, 5} {
			for _, shared := range []bool{true, false} {
				holdOpt(t, comb(nodes, answers, shared))
			}
		}
	}
}

// P4.6: a forest that leads over and over to the same nodes, by more ways than can be counted.
func TestForestsWithVeryManyWays(t *testing.T) {
	f := api.Forest{Nodes: []api.Node{leaf(0), leaf(1), leaf(2)}, Answers: []api.Answer{{Jump: 1}, {Jump: 2}, {Jump: 1}}}
	d := die(3)
	for many := len(f.Nodes); many < 2000; many = len(f.Nodes) {
		f.Nodes = append(f.Nodes, node(d.below(1000), many-1-d.below(3), many-1-d.below(3)))
	}
	holdOpt(t, f)
}

// P4.6: forests of spans, in all ways.
func TestOptOfSpans(t *testing.T) {
	for _, l := range [][]api.Span{town(t), stairs(400), sampleSpans()} {
		f, g := forests(t, l)
		holdOpt(t, f)
		holdOpt(t, g)
	}
}

// P4.6: neighbours with one answer are one, wherever they stand: by their values, in other trees, behind Bounds at which nothing changes.
func TestMerge(t *testing.T) {
	f := api.Forest{
		Nodes: []api.Node{
			leaf(0), leaf(1), leaf(2), leaf(3), // 2 is the same as 1
			node(5, 0, 1), node(15, 2, 3), node(10, 4, 5), // 1 from 5 on, 2 from 10 on, 3 from 15 on
			node(math.MinInt, 3, 6), node(7, 7, 7),
		},
		Answers: []api.Answer{{Jump: 1}, {Offsets: []int{7}}, {Offsets: []int{7}}, {Jump: 2}, {Jump: 3}},
	}
	for ways := range allWays {
		if ways&api.Merge == 0 {
			continue
		}
		g, e := Opt(f, ways)
		if e != api.OK || len(g.Nodes) != 5 || len(g.Answers) != 3 || !slices.Equal(bounds(g), []int{5, 15}) {
			t.Errorf("ways %d: %v, %v", ways, g, e)
		}
	}
	holdOpt(t, f)
}

// P4.6: a Bound below which there is no number changes nothing, so that a leaf is all that may be asked.
func TestMergeBelowAllNumbers(t *testing.T) {
	f := api.Forest{Nodes: []api.Node{leaf(0), leaf(1), node(math.MinInt, 0, 1)}, Answers: []api.Answer{{Jump: 1}, {Jump: 2}}}
	g, e := Opt(f, api.Merge+api.Balance)
	if e != api.OK || len(g.Nodes) != 1 || len(g.Answers) != 1 || g.Answers[0].Jump != 2 {
		t.Errorf("%v, %v", g, e)
	}
}

// P4.6: answers are the same only if all of them is.
func TestAnswersThatAreNotTheSame(t *testing.T) {
	l := []api.Answer{
		{}, {Clock: api.Clock{Offset: 1}}, {Clock: api.Clock{Saving: true}}, {Clock: api.Clock{Name: "A"}}, {Jump: 1},
		{Offsets: []int{0}}, {Offsets: []int{0, 0}}, {Offsets: []int{1}}, {Offsets: []int{0, 1}}, {Offsets: []int{1, 0}},
		{Offsets: []int{0, 0, 0, 0, 0, 0}}, {Offsets: []int{0, 0, 0, 0, 0, 1}},
	}
	f := api.Forest{Answers: append(slices.Clone(l), l...)}
	for i := range f.Answers {
		f.Nodes = append(f.Nodes, leaf(i))
	}
	root := 0
	for i := 1; i < len(f.Answers); i++ {
		f.Nodes = append(f.Nodes, node(i, root, i))
		root = len(f.Nodes) - 1
	}
	g, e := Opt(f, api.Merge)
	if e != api.OK || len(g.Answers) != len(l) || len(bounds(g)) != len(f.Answers)-1 {
		t.Errorf("%v, %v", g, e)
	}
	holdOpt(t, f)
}

// P4.6: with Share trees that are the same are one, from the leaves on; with nothing a forest stays as it is.
func TestShare(t *testing.T) {
	f := api.Forest{
		Nodes: []api.Node{
			leaf(0), leaf(1), node(5, 0, 1), leaf(2), leaf(0), leaf(1), node(5, 4, 5), node(9, 0, 3), node(8, 2, 6), node(7, 0, 0),
			node(3, 6, 8),
		},
		Answers: []api.Answer{{Jump: 1}, {Jump: 2}, {Jump: 1}},
	}
	g, e := Opt(f, api.Share)
	want := []api.Node{leaf(0), leaf(1), node(5, 0, 1), node(8, 2, 2), node(3, 2, 3)}
	if e != api.OK || !slices.Equal(g.Nodes, want) || !reflect.DeepEqual(g.Answers, f.Answers) {
		t.Errorf("%v, %v", g, e)
	}
	if g, e := Opt(f, 0); e != api.OK || !reflect.DeepEqual(f, g) {
		t.Errorf("%v, %v", g, e)
	}
	holdOpt(t, f)
}

// P4.6: sums of ways, and what is none.
func TestNoSuchWays(t *testing.T) {
	for _, ways := range []int{-1, -7, -8, 8, 9, 15, 16, math.MinInt, math.MaxInt} {
		if g, e := Opt(sampleForest(), ways); e != api.ErrRange || len(g.Nodes) != 0 || len(g.Answers) != 0 {
			t.Errorf("ways %d: %v, %v", ways, g, e)
		}
	}
}

// withRoom: a forest whose lists have spare room, with something in it.
func withRoom(f api.Forest) api.Forest {
	g := api.Forest{
		Nodes:   append(slices.Clone(f.Nodes), node(77, 7, 7), leaf(77))[:len(f.Nodes)],
		Answers: append(slices.Clone(f.Answers), api.Answer{Jump: 77}, api.Answer{Jump: 78})[:len(f.Answers)],
	}
	for i, a := range g.Answers {
		g.Answers[i].Offsets = append(slices.Clone(a.Offsets), 77, 78)[:len(a.Offsets)]
	}
	return g
}

// room: all that a forest's lists have, their spare room too, as a copy.
func room(f api.Forest) api.Forest {
	g := api.Forest{Nodes: slices.Clone(f.Nodes[:cap(f.Nodes)]), Answers: slices.Clone(f.Answers[:cap(f.Answers)])}
	for i, a := range g.Answers {
		g.Answers[i].Offsets = slices.Clone(a.Offsets[:cap(a.Offsets)])
	}
	return g
}

// spoil all that a forest's lists have.
func spoil(f api.Forest) {
	for i := range f.Nodes[:cap(f.Nodes)] {
		f.Nodes[:cap(f.Nodes)][i] = leaf(99)
	}
	for _, a := range f.Answers[:cap(f.Answers)] {
		spoilOffsets(a)
	}
	clear(f.Answers[:cap(f.Answers)])
}

func spoilOffsets(a api.Answer) {
	for i := range a.Offsets[:cap(a.Offsets)] {
		a.Offsets[:cap(a.Offsets)][i] = 99
	}
}

// What is answered is new memory; what is handed in stays, its spare room too.
func TestForestsAreNewMemory(t *testing.T) {
	f := withRoom(sampleForest())
	before := room(f)
	for ways := range allWays {
		g, _ := Opt(f, ways)
		again, _ := Opt(f, ways)
		kept := room(again)
		holdApart(t, g)
		for _, a := range g.Answers {
			for _, b := range f.Answers {
				if a.Clock.Name != "" && unsafe.StringData(a.Clock.Name) == unsafe.StringData(b.Clock.Name) {
					t.Errorf("ways %d: the name %s is shared", ways, a.Clock.Name)
				}
			}
		}
		spoil(g)
		if !reflect.DeepEqual(room(f), before) || !reflect.DeepEqual(room(again), kept) {
			t.Fatalf("ways %d: something is shared", ways)
		}
	}
	for _, n := range []int{-100, 0, 50, 200} {
		a, _ := Eval(f, n)
		spoilOffsets(a)
		if !reflect.DeepEqual(room(f), before) {
			t.Fatalf("at %d: something is shared", n)
		}
	}
}

// holdApart: no two answers of a forest share their lists.
func holdApart(t *testing.T, f api.Forest) {
	t.Helper()
	for i := range f.Answers {
		kept := room(f)
		for k := range f.Answers[i].Offsets {
			f.Answers[i].Offsets[k]++
			kept.Answers[i].Offsets[k]++
		}
		if !reflect.DeepEqual(room(f), kept) {
			t.Errorf("answer %d shares its list with another one", i)
		}
	}
}

// Forests of spans are new memory, too; the spans stay, their spare room too.
func TestForestsOfSpansAreNewMemory(t *testing.T) {
	l := append(sampleSpans(), span(77, 77, "room"), span(78, 78, "room"))
	before := slices.Clone(l)
	l = l[:len(l)-2]
	for _, make := range []func([]api.Span) (api.Forest, api.Errno){Forward, Inverse} {
		f, _ := make(l)
		again, _ := make(l)
		kept := room(again)
		holdApart(t, f)
		for _, a := range f.Answers {
			for _, s := range l {
				if a.Clock.Name != "" && unsafe.StringData(a.Clock.Name) == unsafe.StringData(s.Clock.Name) {
					t.Errorf("the name %s is shared", a.Clock.Name)
				}
			}
		}
		spoil(f)
		if !slices.Equal(l[:len(before)], before) || !reflect.DeepEqual(room(again), kept) {
			t.Error("something is shared")
		}
	}
}

// Every call ends, and answers the same each time.
func TestCallsOfWhateverMayCome(t *testing.T) {
	d := die(5)
	wild := []int{math.MinInt, math.MaxInt, -1, 0, 1, 2, 3, 1 << 40, begin, end, 86400, -172801}
	pick := func() int { return wild[d.below(len(wild))] }
	for range 3000 {
		f := api.Forest{}
		for range d.below(4) {
			f.Nodes = append(f.Nodes, api.Node{Leaf: d.below(2) == 0, Answer: d.below(3) - d.below(2), Bound: pick() * d.below(2), Less: d.below(3) - d.below(2), More: d.below(3) - d.below(2)})
		}
		for range d.below(4) {
			f.Answers = append(f.Answers, api.Answer{Clock: api.Clock{Offset: pick()}, Offsets: []int{pick()}, Jump: pick()})
		}
		var l []api.Span
		for range d.below(5) {
			l = append(l, span(pick(), pick(), ""))
		}
		ways, n := pick(), pick()
		outcome := func() []any {
			a, e := Forward(l)
			b, g := Inverse(l)
			c, h := Eval(f, n)
			o, i := Opt(f, ways)
			return []any{a, e, b, g, c, h, o, i, Check(f)}
		}
		if one, other := outcome(), outcome(); !reflect.DeepEqual(one, other) {
			t.Fatalf("%v, then %v", one, other)
		}
	}
}
