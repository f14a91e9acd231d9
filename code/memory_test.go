package code

import (
	"bytes"
	"math"
	"reflect"
	"slices"
	"strings"
	"testing"
	"unsafe"

	"sundial/api"
)

// withRoom: a list that has spare room, with something in it.
func withRoom[T any](l []T, more ...T) []T {
	return append(slices.Clone(l), more...)[:len(l)]
}

// whole: all that a list has, its spare room too, as a copy.
func whole[T any](l []T) []T { return slices.Clone(l[:cap(l)]) }

func roomyAnswers(l []api.Answer) []api.Answer {
	out := withRoom(l, api.Answer{Jump: 77}, api.Answer{Jump: 78})
	for i, a := range out {
		out[i].Offsets = withRoom(a.Offsets, 77, 78)
	}
	return out
}

func wholeAnswers(l []api.Answer) []api.Answer {
	out := whole(l)
	for i, a := range out {
		out[i].Offsets = whole(a.Offsets)
	}
	return out
}

func wholeProgram(p api.Program) api.Program {
	return api.Program{Code: whole(p.Code), Pool: whole(p.Pool), Answers: wholeAnswers(p.Answers)}
}

// fill all that a list has.
func fill[T any](l []T, with T) {
	for i := range l[:cap(l)] {
		l[:cap(l)][i] = with
	}
}

func spoilAnswers(l []api.Answer) {
	for _, a := range l[:cap(l)] {
		fill(a.Offsets, 99)
	}
	fill(l, api.Answer{Jump: 99})
}

// holdApart: no two answers share their lists, and none a name with those that were handed in.
func holdApart(t *testing.T, l, given []api.Answer) {
	t.Helper()
	for i, a := range l {
		kept := wholeAnswers(l)
		fill(a.Offsets, 98)
		fill(kept[i].Offsets, 98)
		if !reflect.DeepEqual(wholeAnswers(l), kept) {
			t.Errorf("answer %d shares its list with another one", i)
		}
		for _, b := range given {
			if a.Clock.Name != "" && unsafe.StringData(a.Clock.Name) == unsafe.StringData(b.Clock.Name) {
				t.Errorf("the name %s is shared", a.Clock.Name)
			}
		}
	}
}

// What is handed in stays, its spare room too, and what Run tells shares nothing with it.
func TestProgramsStay(t *testing.T) {
	p := sampleProgram()
	p = api.Program{Code: withRoom(p.Code, api.Instr{Op: 77}), Pool: withRoom(p.Pool, 77), Answers: roomyAnswers(p.Answers)}
	before := wholeProgram(p)
	for _, n := range []int{-100, 100} {
		a, _, _ := Run(p, n)
		holdApart(t, []api.Answer{a}, p.Answers)
		fill(a.Offsets, 99)
	}
	Verify(p)
	b, _ := Encode(p)
	fill(b, 99)
	s, _ := Text(p.Code)
	if !reflect.DeepEqual(wholeProgram(p), before) || s == "" {
		t.Error("it was changed")
	}
}

// What Gen answers is new memory, and no two of its lists share any.
func TestGenIsNewMemory(t *testing.T) {
	f := sampleForest()
	f = api.Forest{Nodes: withRoom(f.Nodes, node(77, 7, 7)), Answers: roomyAnswers(f.Answers)}
	nodes, answers := whole(f.Nodes), wholeAnswers(f.Answers)
	p, _ := Gen(f)
	again, _ := Gen(f)
	kept := wholeProgram(again)
	holdApart(t, p.Answers, f.Answers)
	fill(p.Code, api.Instr{Op: 99})
	fill(p.Pool, 99)
	spoilAnswers(p.Answers)
	if !slices.Equal(whole(f.Nodes), nodes) || !reflect.DeepEqual(wholeAnswers(f.Answers), answers) || !reflect.DeepEqual(wholeProgram(again), kept) {
		t.Error("something is shared")
	}
}

// What Decode answers is new memory, and no two of its lists share any.
func TestDecodeIsNewMemory(t *testing.T) {
	b := withRoom(plainBytes(sampleProgram()), 77, 78)
	before := whole(b)
	p, _ := Decode(b)
	again, _ := Decode(b)
	kept := wholeProgram(again)
	holdApart(t, p.Answers, nil)
	fill(p.Code, api.Instr{Op: 99})
	fill(p.Pool, 99)
	spoilAnswers(p.Answers)
	if !bytes.Equal(whole(b), before) || !reflect.DeepEqual(wholeProgram(again), kept) {
		t.Error("something is shared")
	}
	fill(b, 99)
	if !alike(again, sampleProgram()) {
		t.Errorf("the bytes are kept: %v", again)
	}
}

// Every call ends, and answers the same each time.
func TestCallsOfWhateverMayCome(t *testing.T) {
	d := die(7)
	wild := []int{math.MinInt, math.MaxInt, -1, 0, 1, 2, 3, 4, 5, 6, 7, 1 << 40, 172801}
	pick := func() int { return wild[d.below(len(wild))] }
	for range 20000 {
		var p api.Program
		for range d.below(5) {
			p.Code = append(p.Code, api.Instr{Op: 1 + d.below(6), N: d.below(3)})
		}
		if len(p.Code) > 0 && d.below(3) == 0 {
			p.Code[d.below(len(p.Code))] = api.Instr{Op: pick(), N: pick()}
		}
		for range d.below(4) {
			p.Pool = append(p.Pool, pick())
			p.Answers = append(p.Answers, api.Answer{Jump: pick() * d.below(2), Offsets: []int{d.below(9)}})
		}
		f := api.Forest{Answers: p.Answers}
		for range d.below(4) {
			f.Nodes = append(f.Nodes, api.Node{Leaf: d.below(2) == 0, Answer: d.below(3) - d.below(2), Bound: pick() * d.below(2), Less: d.below(3) - d.below(2), More: d.below(3) - d.below(2)})
		}
		b := []byte(strings.Repeat("sd1", d.below(2)))
		for range d.below(30) {
			b = append(b, byte(d.below(4)*d.below(80)))
		}
		n := pick()
		outcome := func() []any {
			steps, stack, e := Verify(p)
			a, done, g := Run(p, n)
			q, h := Gen(f)
			c, i := Encode(p)
			r, j := Decode(b)
			s, k := Text(p.Code)
			l, line, m := Parse(s + string(b))
			return []any{steps, stack, e, a, done, g, q, h, c, i, r, j, s, k, l, line, m}
		}
		if one, other := outcome(), outcome(); !reflect.DeepEqual(one, other) {
			t.Fatalf("%v, then %v", one, other)
		}
	}
}
