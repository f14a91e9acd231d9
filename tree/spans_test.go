package tree

import (
	"fmt"
	"math"
	"slices"
	"testing"

	"sundial/api"
	"sundial/source"
	"sundial/zones"
)

// die: numbers that look drawn, the same each time.
type die uint64

func (d *die) below(n int) int {
	*d = *d*6364136223846793005 + 1442695040888963407
	return int(uint64(*d>>33) % uint64(n))
}

// told by a forest, which must be one that may be.
func told(t *testing.T, f api.Forest, n int) api.Answer {
	t.Helper()
	a, e := Eval(f, n)
	if e != api.OK {
		t.Fatalf("Eval at %d: %v", n, e)
	}
	return a
}

// hold: what a forest tells for a number.
func hold(t *testing.T, f api.Forest, n int, want api.Answer) {
	t.Helper()
	if a := told(t, f, n); !same(a, want) {
		t.Errorf("at %d: %v, want %v", n, a, want)
	}
}

// forests of spans that may be.
func forests(t *testing.T, l []api.Span) (api.Forest, api.Forest) {
	t.Helper()
	f, e := Forward(l)
	g, h := Inverse(l)
	if e != api.OK || h != api.OK {
		t.Fatalf("Forward %v, Inverse %v", e, h)
	}
	return f, g
}

// town of the document's example.
func town(t *testing.T) []api.Span {
	t.Helper()
	s, line, e := source.Read("Rule EU 1980 max - Mar lastSun 1:00u 1:00 S\nRule EU 1980 max - Oct lastSun 1:00u 0 -\nZone Town 1:00 EU CE%sT\n")
	if e != api.OK {
		t.Fatalf("line %d: %v", line, e)
	}
	l, e := zones.Spans(s, "Town")
	if e != api.OK || len(l) != 241 {
		t.Fatalf("%d spans, %v", len(l), e)
	}
	return l
}

var (
	winter = api.Clock{Offset: 3600, Name: "CET"}
	summer = api.Clock{Offset: 7200, Saving: true, Name: "CEST"}
)

// P4.2: a clock, and nothing else; numbers ahead of the window and behind it, too.
func TestForwardOfTown(t *testing.T) {
	f, _ := forests(t, town(t))
	for _, n := range []int{math.MinInt, -1 << 40, begin - 1, begin, 0, 954032399, 972781200, end - 1, end, 1 << 40, math.MaxInt} {
		hold(t, f, n, api.Answer{Clock: winter})
	}
	for _, n := range []int{954032400, 972781199} {
		hold(t, f, n, api.Answer{Clock: summer})
	}
}

// P4.3: a time that no clock shows, one that two clocks show, and those around them.
func TestInverseOfTown(t *testing.T) {
	_, g := forests(t, town(t))
	one, other := api.Answer{Offsets: []int{3600}}, api.Answer{Offsets: []int{7200}}
	hold(t, g, 3600, one)
	hold(t, g, 954035999, one)
	for _, n := range []int{954036000, 954037000, 954039599} {
		hold(t, g, n, api.Answer{Jump: 954032400})
	}
	hold(t, g, 954039600, other)
	hold(t, g, 972781200+3599, other)
	hold(t, g, 972781200+3600, api.Answer{Offsets: []int{7200, 3600}})
	hold(t, g, 972781200+7199, api.Answer{Offsets: []int{7200, 3600}})
	hold(t, g, 972781200+7200, one)
}

// P4.3: what is ahead of all that a clock shows, and behind it.
func TestInverseAtTheWindowsEdges(t *testing.T) {
	for _, offset := range []int{0, 3600, -3600, offsetLimit, -offsetLimit} {
		l := []api.Span{span(begin, offset, "A")}
		_, g := forests(t, l)
		for _, n := range []int{begin + offset, 0, end + offset - 1} {
			hold(t, g, n, api.Answer{Offsets: []int{offset}})
		}
		for _, n := range []int{-1 << 40, begin + offset - 1} {
			hold(t, g, n, api.Answer{Jump: begin})
		}
		for _, n := range []int{end + offset, 1 << 40} {
			hold(t, g, n, api.Answer{Jump: end})
		}
	}
	// The first span is so short that its clock shows less than the second one's, and the window's first second shows up twice.
	_, g := forests(t, []api.Span{span(begin, 100, "A"), span(begin+10, 90, "B")})
	hold(t, g, begin+99, api.Answer{Jump: begin})
	hold(t, g, begin+100, api.Answer{Offsets: []int{100, 90}})
	_, g = forests(t, []api.Span{span(begin, 100, "A"), span(begin+10, 0, "B")})
	hold(t, g, begin+9, api.Answer{Jump: begin})
	hold(t, g, begin+10, api.Answer{Offsets: []int{0}})
	// A last span that shows nothing new.
	_, g = forests(t, []api.Span{span(begin, 0, "A"), span(end-1, -500, "B")})
	hold(t, g, end-501, api.Answer{Offsets: []int{0, -500}})
	hold(t, g, end-2, api.Answer{Offsets: []int{0}})
	hold(t, g, end-1, api.Answer{Jump: end})
}

// P4.3: Jump may be 0, and it is of the first span that shows more, not of the one that shows the least more.
func TestJumps(t *testing.T) {
	_, g := forests(t, []api.Span{span(begin, 0, "A"), span(0, 60, "B")})
	hold(t, g, -1, api.Answer{Offsets: []int{0}})
	for n := range 60 {
		hold(t, g, n, api.Answer{})
	}
	hold(t, g, 60, api.Answer{Offsets: []int{60}})
	// The second span shows 1000 to 1009, the third one from 510 on: 100 is jumped over at 0, though 510 is less than 1000.
	_, g = forests(t, []api.Span{span(begin, 0, "A"), span(0, 1000, "B"), span(10, 500, "C")})
	hold(t, g, 100, api.Answer{Jump: 0})
	hold(t, g, 509, api.Answer{Jump: 0})
	hold(t, g, 510, api.Answer{Offsets: []int{500}})
	hold(t, g, 1000, api.Answer{Offsets: []int{1000, 500}})
	// The second one shows less: the third one is the first that shows more.
	_, g = forests(t, []api.Span{span(begin, 0, "A"), span(20, -50, "B"), span(40, 500, "C")})
	hold(t, g, 20, api.Answer{Jump: 40})
	hold(t, g, 539, api.Answer{Jump: 40})
}

// P4.3: offsets are in the order of their spans, neither rising nor falling.
func TestOffsetsInTheOrderOfSpans(t *testing.T) {
	_, g := forests(t, []api.Span{span(begin, 0, "A"), span(0, -100, "B"), span(100, -50, "C"), span(110, -150, "D")})
	hold(t, g, -41, api.Answer{Offsets: []int{0, -100}})
	hold(t, g, -40, api.Answer{Offsets: []int{0, -100, -150}})
	hold(t, g, -1, api.Answer{Offsets: []int{0, -100, -150}})
	hold(t, g, 0, api.Answer{Offsets: []int{-150}})
	hold(t, g, 50, api.Answer{Offsets: []int{-50, -150}})
	hold(t, g, 60, api.Answer{Offsets: []int{-150}})
}

// P4.2, P4.3: spans whose clocks are the same, or show the same, are told as one.
func TestSpansThatShowTheSame(t *testing.T) {
	f, g := forests(t, []api.Span{span(begin, 60, "A"), span(0, 60, "A"), span(50, 60, "B")})
	hold(t, f, -1, api.Answer{Clock: api.Clock{Offset: 60, Name: "A"}})
	hold(t, f, 0, api.Answer{Clock: api.Clock{Offset: 60, Name: "A"}})
	hold(t, f, 50, api.Answer{Clock: api.Clock{Offset: 60, Name: "B"}})
	for n := 55; n < 115; n++ {
		hold(t, g, n, api.Answer{Offsets: []int{60}})
	}
}

// falling: spans whose clocks show the same second so many times.
func falling(many int) []api.Span {
	l := []api.Span{span(begin, 0, "")}
	for i := 1; i < many; i++ {
		l = append(l, span(i*10, -i*10, ""))
	}
	return l
}

// P4.3: as many offsets as an answer may have, and one more.
func TestHowManyOffsets(t *testing.T) {
	f, g := forests(t, falling(api.MaxList))
	hold(t, g, 0, api.Answer{Offsets: []int{0, -10, -20, -30, -40, -50}})
	hold(t, f, 0, api.Answer{})
	for _, many := range []int{api.MaxList + 1, 50, api.MaxSpans} {
		if g, e := Inverse(falling(many)); e != api.ErrSize || len(g.Nodes) != 0 || len(g.Answers) != 0 {
			t.Errorf("%d offsets: %v, %v", many, g, e)
		}
		if _, e := Forward(falling(many)); e != api.OK {
			t.Errorf("Forward of %d spans: %v", many, e)
		}
	}
}

// stairs: spans of which each one's end is shown again by the next one, with offsets that are all different: there are two answers a span, and one more.
func stairs(many int) []api.Span {
	var l []api.Span
	for i := range many {
		l = append(l, span(begin+i*1000, offsetLimit-i*100, fmt.Sprint(i)))
	}
	return l
}

// P4.3: limits of a forest must not be passed; of up to 400 spans they never are.
func TestHowManyAnswers(t *testing.T) {
	for _, many := range []int{400, 401, 999} {
		l := stairs(many)
		f, g := forests(t, l)
		holdSpans(t, l, f, g)
		if len(f.Answers) != many || len(g.Answers) != 2*many+1 {
			t.Errorf("%d spans: %d and %d answers", many, len(f.Answers), len(g.Answers))
		}
	}
	// Behind a jump there is an answer more: that there is none; the offset of the first span is told already.
	l := append(stairs(999), span(end-1, offsetLimit, ""))
	f, g := forests(t, l)
	holdSpans(t, l, f, g)
	if len(g.Answers) != api.MaxAnswers {
		t.Errorf("%d answers", len(g.Answers))
	}
	if g, e := Inverse(stairs(1000)); e != api.ErrSize || len(g.Nodes) != 0 || len(g.Answers) != 0 {
		t.Errorf("1000 spans: %v, %v", len(g.Answers), e)
	}
}

// plainSpan: the place of the span that an instant of the window is in.
func plainSpan(l []api.Span, t int) int {
	i := 0
	for i+1 < len(l) && l[i+1].From <= t {
		i++
	}
	return i
}

// plainShown: P4.3, span by span: the one instant at which its clock may show that must be in it.
func plainShown(l []api.Span, n int) api.Answer {
	var a api.Answer
	for i, s := range l {
		if t := n - s.Clock.Offset; t >= begin && t < end && plainSpan(l, t) == i {
			a.Offsets = append(a.Offsets, s.Clock.Offset)
		}
	}
	if len(a.Offsets) > 0 {
		return a
	}
	i := slices.IndexFunc(l, func(s api.Span) bool { return s.From+s.Clock.Offset > n })
	if i < 0 {
		return api.Answer{Jump: end}
	}
	return api.Answer{Jump: l[i].From}
}

// holdSpans: what forests tell, around all numbers at which it may be something else.
func holdSpans(t *testing.T, l []api.Span, f, g api.Forest) {
	t.Helper()
	forward, inverse := []int{math.MinInt, math.MaxInt, 0}, []int{-1 << 40, 1 << 40, 0}
	for i, s := range l {
		ends := end
		if i+1 < len(l) {
			ends = l[i+1].From
		}
		for _, n := range []int{s.From, ends} {
			forward = append(forward, n-1, n, n+1)
			n += s.Clock.Offset
			inverse = append(inverse, n-1, n, n+1)
		}
	}
	if len(l) > 100 { // each Eval looks the whole forest over
		forward, inverse = every(forward, 17), every(inverse, 17)
	}
	for _, n := range forward {
		hold(t, f, n, api.Answer{Clock: l[plainSpan(l, n)].Clock})
	}
	for _, n := range inverse {
		hold(t, g, n, plainShown(l, n))
	}
}

// every so many of a list.
func every(l []int, step int) []int {
	var out []int
	for i := 0; i < len(l); i += step {
		out = append(out, l[i])
	}
	return out
}

// spans that look drawn: with short and long steps, small and great offsets, that may fall from span to span.
func (d *die) spans() []api.Span {
	step, reach := []int{3, 50, 5000, 200000, 40000000}[d.below(5)], []int{2, 40, 4000, offsetLimit}[d.below(4)]
	clock := func() api.Clock {
		return api.Clock{Offset: d.below(2*reach+1) - reach, Saving: d.below(2) == 0, Name: []string{"", "A", "B"}[d.below(3)]}
	}
	l := []api.Span{{From: begin, Clock: clock()}}
	fall := d.below(4) == 0
	for range d.below(12) {
		s := api.Span{From: l[len(l)-1].From + 1 + d.below(step), Clock: clock()}
		if fall { // so that clocks show the same second again and again
			s.Clock.Offset = max(-offsetLimit, min(offsetLimit, begin+s.Clock.Offset-s.From))
		}
		l = append(l, s)
	}
	if d.below(3) == 0 {
		l = append(l, api.Span{From: end - 1 - d.below(step), Clock: clock()})
	}
	return l
}

// P4.2, P4.3: drawn spans, held against the plainest reading of the chapter.
func TestDrawnSpans(t *testing.T) {
	d := die(1)
	refused := 0
	for range 4000 {
		l := d.spans()
		f, e := Forward(l)
		g, h := Inverse(l)
		if e != api.OK {
			t.Fatalf("%v: %v", l, e)
		}
		if h == api.ErrSize && most(l) > api.MaxList {
			refused++
			continue
		}
		if h != api.OK || most(l) > api.MaxList {
			t.Fatalf("%v: %v, though there are at most %d offsets", l, h, most(l))
		}
		holdSpans(t, l, f, g)
	}
	if refused < 50 || refused > 2000 {
		t.Errorf("%d of 4000 have too many offsets", refused)
	}
}

// most offsets of any answer: more can only be from where a span begins to be shown.
func most(l []api.Span) int {
	m := 0
	for _, s := range l {
		m = max(m, len(plainShown(l, s.From+s.Clock.Offset).Offsets))
	}
	return m
}
