package zones

import (
	"fmt"
	"math"
	"reflect"
	"strings"
	"testing"

	"sundial/api"
	"sundial/source"
)

const day = 86400

// first day of a month, at a time by Wall.
func first(month, time int) api.Moment {
	return api.Moment{Month: month, Day: api.Day{Kind: api.On, N: 1}, Time: time}
}

// sample source that may be, made anew each time.
func sample() api.Source {
	rule := func(name string, month, save int) api.Rule {
		return api.Rule{Name: name, From: 1950, To: 1960, At: first(month, 7200), Save: save, Letters: "S"}
	}
	zone := func(name string) api.Zone {
		return api.Zone{Name: name, Eras: []api.Era{
			{Offset: 60, Save: 30, Format: "LMT", Ends: true, Year: 1930, Until: first(2, 0)},
			{Offset: 3600, Rules: "A", Format: "X%sT", Ends: true, Year: 1970, Until: first(5, 0)},
			{Offset: 7200, Rules: "B", Format: "P/Q"},
		}}
	}
	return api.Source{
		Rules: []api.Rule{rule("A", 4, 3600), rule("A", 10, 0), rule("B", 6, 1800)},
		Zones: []api.Zone{zone("One"), zone("Two")},
		Links: []api.Link{{Of: "One", Name: "Three"}, {Of: "Three", Name: "Four"}, {Of: "Two", Name: "Five"}},
	}
}

// holdCheck: Check says so of a source, and the other calls say the same of it, with nothing beside it.
func holdCheck(t *testing.T, what string, s api.Source, want api.Errno) {
	t.Helper()
	if e := Check(s); e != want {
		t.Errorf("%s: Check: %v, want %v", what, e, want)
	}
	if want == api.OK {
		return
	}
	if c, e := At(s, "One", 0); e != want || c != (api.Clock{}) {
		t.Errorf("%s: At: %v, %v, want %v", what, c, e, want)
	}
	if l, e := Spans(s, "One"); e != want || len(l) != 0 {
		t.Errorf("%s: Spans: %v, %v, want %v", what, l, e, want)
	}
}

// fault: something that is made wrong in a source.
type fault struct {
	what string
	want api.Errno
	do   func(*api.Source)
}

// faults of one rank: which of them is met first, none can tell.
type faults []fault

// momentFaults: of a moment, what CheckMoment refuses.
func momentFaults(what string, at func(*api.Source) *api.Moment) faults {
	wrong := func(how string, want api.Errno, change func(*api.Moment)) fault {
		return fault{what + " " + how, want, func(s *api.Source) { change(at(s)) }}
	}
	return faults{
		wrong("no kind of day", api.ErrKind, func(m *api.Moment) { m.Day.Kind = 5 }),
		wrong("no day", api.ErrRange, func(m *api.Moment) { m.Day.N = 32 }),
		wrong("no weekday", api.ErrRange, func(m *api.Moment) { m.Day = api.Day{Kind: api.Last, W: 7} }),
		wrong("no clock", api.ErrKind, func(m *api.Moment) { m.Clock = 3 }),
		wrong("no month", api.ErrRange, func(m *api.Moment) { m.Month = 13 }),
		wrong("time below", api.ErrRange, func(m *api.Moment) { m.Time = -1 }),
		wrong("time above", api.ErrRange, func(m *api.Moment) { m.Time = api.MaxTime + 1 }),
	}
}

// ruleFaults: of the rule at a place, rank by rank, as P3.1 says.
func ruleFaults(i int) []faults {
	wrong := func(how string, want api.Errno, change func(*api.Rule)) fault {
		return fault{fmt.Sprint("rule ", i, " ", how), want, func(s *api.Source) { change(&s.Rules[i]) }}
	}
	return []faults{{
		wrong("without a name", api.ErrForm, func(r *api.Rule) { r.Name = "" }),
		wrong("name", api.ErrForm, func(r *api.Rule) { r.Name = "1A" }),
		wrong("long name", api.ErrForm, func(r *api.Rule) { r.Name = strings.Repeat("A", api.MaxWord+1) }),
		wrong("letters", api.ErrForm, func(r *api.Rule) { r.Letters = "-" }),
		wrong("long letters", api.ErrForm, func(r *api.Rule) { r.Letters = "abcdefg" }),
	}, {
		wrong("from below", api.ErrRange, func(r *api.Rule) { r.From = api.FirstYear - 1 }),
		wrong("from above", api.ErrRange, func(r *api.Rule) { r.From = api.LastYear + 1 }),
		wrong("to below", api.ErrRange, func(r *api.Rule) { r.To = api.FirstYear - 1 }),
		wrong("to above", api.ErrRange, func(r *api.Rule) { r.To = api.LastYear + 1 }),
		wrong("from far below", api.ErrRange, func(r *api.Rule) { r.From = math.MinInt }),
		wrong("to far above", api.ErrRange, func(r *api.Rule) { r.To = math.MaxInt }),
		wrong("save below", api.ErrRange, func(r *api.Rule) { r.Save = -api.MaxOffset - 1 }),
		wrong("save above", api.ErrRange, func(r *api.Rule) { r.Save = api.MaxOffset + 1 }),
	}, {
		wrong("to ahead of from", api.ErrOrder, func(r *api.Rule) { r.From, r.To = 1951, 1950 }),
	},
		momentFaults(fmt.Sprint("rule ", i), func(s *api.Source) *api.Moment { return &s.Rules[i].At }),
	}
}

// eraFaults: of an era, rank by rank, as P3.2 says; only the last one of the sample's three does not end.
func eraFaults(i, j int) []faults {
	what := fmt.Sprint("zone ", i, " era ", j)
	wrong := func(how string, want api.Errno, change func(*api.Era)) fault {
		return fault{what + " " + how, want, func(s *api.Source) { change(&s.Zones[i].Eras[j]) }}
	}
	forms := faults{
		wrong("without a format", api.ErrForm, func(e *api.Era) { e.Format = "" }),
		wrong("format", api.ErrForm, func(e *api.Era) { e.Format = "%s/%s" }),
		wrong("long format", api.ErrForm, func(e *api.Era) { e.Format = strings.Repeat("A", api.MaxName+1) }),
		wrong("rules", api.ErrForm, func(e *api.Era) { e.Rules, e.Save = "-", 0 }),
		wrong("rules and save", api.ErrForm, func(e *api.Era) { e.Rules, e.Save = "A", 1 }),
		wrong("ends and is the last, or neither", api.ErrForm, func(e *api.Era) { e.Ends = !e.Ends }),
	}
	ranks := []faults{{
		wrong("offset below", api.ErrRange, func(e *api.Era) { e.Offset = -api.MaxOffset - 1 }),
		wrong("offset above", api.ErrRange, func(e *api.Era) { e.Offset = api.MaxOffset + 1 }),
		wrong("save below", api.ErrRange, func(e *api.Era) { e.Rules, e.Save = "", -api.MaxOffset-1 }),
		wrong("save above", api.ErrRange, func(e *api.Era) { e.Rules, e.Save = "", api.MaxOffset+1 }),
	}, {
		wrong("no such rules", api.ErrNone, func(e *api.Era) { e.Rules, e.Save = "C", 0 }),
		wrong("a zone's name as rules", api.ErrNone, func(e *api.Era) { e.Rules, e.Save = "One", 0 }),
	}}
	if j == 2 {
		forms = append(forms,
			wrong("last with a year", api.ErrForm, func(e *api.Era) { e.Year = 2000 }),
			wrong("last with a month", api.ErrForm, func(e *api.Era) { e.Until.Month = 1 }),
			wrong("last with a kind of day", api.ErrForm, func(e *api.Era) { e.Until.Day.Kind = api.Last }),
			wrong("last with a weekday", api.ErrForm, func(e *api.Era) { e.Until.Day.W = 1 }),
			wrong("last with a day", api.ErrForm, func(e *api.Era) { e.Until.Day.N = 1 }),
			wrong("last with a time", api.ErrForm, func(e *api.Era) { e.Until.Time = 1 }),
			wrong("last with a clock", api.ErrForm, func(e *api.Era) { e.Until.Clock = api.World }),
		)
		return append([]faults{forms}, ranks...)
	}
	return append(append([]faults{forms}, ranks...), faults{
		wrong("year below", api.ErrRange, func(e *api.Era) { e.Year = api.FirstYear - 1 }),
		wrong("year above", api.ErrRange, func(e *api.Era) { e.Year = api.LastYear + 1 }),
	},
		momentFaults(what, func(s *api.Source) *api.Moment { return &s.Zones[i].Eras[j].Until }),
		faults{wrong("no such day in that year", api.ErrRange, func(e *api.Era) {
			e.Year, e.Until.Month, e.Until.Day = 1901, 2, api.Day{Kind: api.On, N: 29}
		})},
	)
}

// zoneFaults: of a zone, rank by rank, as P3.2 says.
func zoneFaults(i int) []faults {
	wrong := func(how string, want api.Errno, change func(*api.Zone)) fault {
		return fault{fmt.Sprint("zone ", i, " ", how), want, func(s *api.Source) { change(&s.Zones[i]) }}
	}
	ranks := []faults{{
		wrong("without a name", api.ErrForm, func(z *api.Zone) { z.Name = "" }),
		wrong("name", api.ErrForm, func(z *api.Zone) { z.Name = "a b" }),
	}, {
		wrong("without eras", api.ErrSize, func(z *api.Zone) { z.Eras = nil }),
		wrong("many eras", api.ErrSize, func(z *api.Zone) {
			z.Eras = append(z.Eras, z.Eras[:1]...)
			for len(z.Eras) <= api.MaxEras {
				z.Eras = append(z.Eras, z.Eras[0])
			}
		}),
	}}
	for j := range 3 {
		ranks = append(ranks, eraFaults(i, j)...)
	}
	ranks = append(ranks, faults{
		wrong("order", api.ErrOrder, func(z *api.Zone) { z.Eras[1].Year = 1929 }),
		wrong("ends at the same instant", api.ErrOrder, func(z *api.Zone) {
			z.Eras[1].Year, z.Eras[1].Until = 1930, first(2, 3600-90)
		}),
	})
	if i > 0 {
		ranks = append(ranks, faults{
			wrong("name of the first", api.ErrTwice, func(z *api.Zone) { z.Name = "One" }),
		})
	}
	return ranks
}

// linkFaults: of all links, rank by rank, as P3.5 says.
func linkFaults() []faults {
	var ranks []faults
	wrong := func(i int, how string, want api.Errno, change func(*api.Link)) fault {
		return fault{fmt.Sprint("link ", i, " ", how), want, func(s *api.Source) { change(&s.Links[i]) }}
	}
	var nones, loops faults
	for i := range 3 {
		ranks = append(ranks, faults{
			wrong(i, "of no name", api.ErrForm, func(l *api.Link) { l.Of = "" }),
			wrong(i, "without a name", api.ErrForm, func(l *api.Link) { l.Name = "" }),
			wrong(i, "of a wrong name", api.ErrForm, func(l *api.Link) { l.Of = "One%" }),
			wrong(i, "wrong name", api.ErrForm, func(l *api.Link) { l.Name = "_One" }),
		})
		twice := faults{wrong(i, "name of a zone", api.ErrTwice, func(l *api.Link) { l.Name = "Two" })}
		if i > 0 {
			twice = append(twice, wrong(i, "name of a link ahead", api.ErrTwice, func(l *api.Link) { l.Name = "Three" }))
		}
		ranks = append(ranks, twice)
		nones = append(nones,
			wrong(i, "of none", api.ErrNone, func(l *api.Link) { l.Of = "Nowhere" }),
			wrong(i, "of a rule", api.ErrNone, func(l *api.Link) { l.Of = "A" }),
		)
		loops = append(loops, wrong(i, "of itself", api.ErrLoop, func(l *api.Link) { l.Of = l.Name }))
	}
	loops = append(loops, wrong(0, "of one that leads to it", api.ErrLoop, func(l *api.Link) { l.Of = "Four" }))
	return append(ranks, nones, loops)
}

func sizeFaults() faults {
	return faults{
		{"many rules", api.ErrSize, func(s *api.Source) {
			for len(s.Rules) <= api.MaxLines {
				s.Rules = append(s.Rules, s.Rules[0])
			}
		}},
		{"many zones", api.ErrSize, func(s *api.Source) {
			for len(s.Zones) <= api.MaxLines {
				s.Zones = append(s.Zones, api.Zone{Name: fmt.Sprint("z", len(s.Zones)), Eras: []api.Era{{Format: "X"}}})
			}
		}},
		{"many links", api.ErrSize, func(s *api.Source) {
			for len(s.Links) <= api.MaxLines {
				s.Links = append(s.Links, api.Link{Of: "One", Name: fmt.Sprint("l", len(s.Links))})
			}
		}},
	}
}

// allFaults, rank by rank, in the order in which the document names them.
func allFaults() []faults {
	ranks := []faults{sizeFaults()}
	for i := range 3 {
		ranks = append(ranks, ruleFaults(i)...)
	}
	for i := range 2 {
		ranks = append(ranks, zoneFaults(i)...)
	}
	return append(ranks, linkFaults()...)
}

// P3.1, P3.2, P3.5: each thing that may be wrong.
func TestEachFault(t *testing.T) {
	holdCheck(t, "sample", sample(), api.OK)
	for _, rank := range allFaults() {
		for _, f := range rank {
			s := sample()
			f.do(&s)
			holdCheck(t, f.what, s, f.want)
		}
	}
}

// P3.1, P3.2, P3.5: of two things that are wrong, the one that the document names first.
func TestTheFirstFaultIsTold(t *testing.T) {
	ranks := allFaults()
	for i, rank := range ranks {
		for _, f := range rank {
			for _, later := range ranks[i+1:] {
				for _, g := range later {
					s := sample()
					g.do(&s)
					f.do(&s)
					if e := Check(s); e != f.want {
						t.Errorf("%s, and %s: %v, want %v", f.what, g.what, e, f.want)
					}
				}
			}
		}
	}
}

// P3.1: the edges of what may be.
func TestRulesAtTheirEdges(t *testing.T) {
	for what, change := range map[string]func(*api.Rule){
		"all years":       func(r *api.Rule) { r.From, r.To = api.FirstYear, api.LastYear },
		"first year":      func(r *api.Rule) { r.From, r.To = api.FirstYear, api.FirstYear },
		"last year":       func(r *api.Rule) { r.From, r.To = api.LastYear, api.LastYear },
		"much is saved":   func(r *api.Rule) { r.Save = api.MaxOffset },
		"much is not":     func(r *api.Rule) { r.Save = -api.MaxOffset },
		"no letters":      func(r *api.Rule) { r.Letters = "" },
		"six letters":     func(r *api.Rule) { r.Letters = "abcXYZ" },
		"latest time":     func(r *api.Rule) { r.At.Time = api.MaxTime },
		"never found":     func(r *api.Rule) { r.At.Month, r.At.Day.N = 2, 31 },
		"another name":    func(r *api.Rule) { r.Name = "C" },
		"name of a zone":  func(r *api.Rule) { r.Name = "One" },
		"longest name":    func(r *api.Rule) { r.Name = strings.Repeat("A", api.MaxWord) },
		"by another time": func(r *api.Rule) { r.At.Clock = api.World },
	} {
		s := sample()
		change(&s.Rules[1])
		holdCheck(t, what, s, api.OK)
	}
}

// P3.1: as many lines as may be, and one more, of each.
func TestHowManyLines(t *testing.T) {
	for _, n := range []int{0, 1, api.MaxLines - 1, api.MaxLines, api.MaxLines + 1, api.MaxLines + 2} {
		want := api.OK
		if n > api.MaxLines {
			want = api.ErrSize
		}
		var s api.Source
		for range n {
			s.Rules = append(s.Rules, sample().Rules[0])
		}
		holdCheck(t, fmt.Sprint(n, " rules"), s, want)
		s = api.Source{}
		for i := range n {
			s.Zones = append(s.Zones, api.Zone{Name: fmt.Sprint("z", i), Eras: []api.Era{{Format: "X"}}})
		}
		holdCheck(t, fmt.Sprint(n, " zones"), s, want)
		s = api.Source{Zones: []api.Zone{{Name: "One", Eras: []api.Era{{Format: "X"}}}}}
		for i := range n {
			s.Links = append(s.Links, api.Link{Of: "One", Name: fmt.Sprint("l", i)})
		}
		holdCheck(t, fmt.Sprint(n, " links"), s, want)
	}
	// Each list is counted on its own.
	s := sample()
	for _, f := range sizeFaults() {
		f.do(&s)
	}
	s.Rules, s.Zones, s.Links = s.Rules[:api.MaxLines], s.Zones[:api.MaxLines], s.Links[:api.MaxLines]
	holdCheck(t, "full", s, api.OK)
}

// zoneOf so many eras, that end year by year.
func zoneOf(n int) api.Zone {
	z := api.Zone{Name: "One"}
	for i := range n - 1 {
		z.Eras = append(z.Eras, api.Era{Format: "X", Ends: true, Year: 1950 + i, Until: first(1, 0)})
	}
	z.Eras = append(z.Eras, api.Era{Format: "Y"})
	return z
}

// P3.2: as many eras as may be, and one more.
func TestHowManyErasAZoneHas(t *testing.T) {
	for _, n := range []int{1, 2, api.MaxEras - 1, api.MaxEras} {
		holdCheck(t, fmt.Sprint(n, " eras"), api.Source{Zones: []api.Zone{zoneOf(n)}}, api.OK)
	}
	holdCheck(t, "many eras", api.Source{Zones: []api.Zone{zoneOf(api.MaxEras + 1)}}, api.ErrSize)
	holdCheck(t, "no eras", api.Source{Zones: []api.Zone{{Name: "One", Eras: []api.Era{}}}}, api.ErrSize)
}

// P3.2: the edges of what may be.
func TestErasAtTheirEdges(t *testing.T) {
	for what, change := range map[string]func(z *api.Zone){
		"offset above": func(z *api.Zone) { z.Eras[0].Offset = api.MaxOffset },
		"offset below": func(z *api.Zone) { z.Eras[2].Offset = -api.MaxOffset },
		"save above":   func(z *api.Zone) { z.Eras[0].Save = api.MaxOffset },
		"save below":   func(z *api.Zone) { z.Eras[0].Save = -api.MaxOffset },
		"first year":   func(z *api.Zone) { z.Eras[0].Year = api.FirstYear },
		"last year":    func(z *api.Zone) { z.Eras[1].Year = api.LastYear },
		"latest end": func(z *api.Zone) {
			z.Eras[1].Year, z.Eras[1].Until = api.LastYear, api.Moment{Month: 12, Day: api.Day{Kind: api.After, W: 6, N: 31}, Time: api.MaxTime}
		},
		"leap day":        func(z *api.Zone) { z.Eras[0].Year, z.Eras[0].Until.Day.N = 1932, 29 },
		"longest format":  func(z *api.Zone) { z.Eras[0].Format = strings.Repeat("A", api.MaxName) },
		"a second behind": func(z *api.Zone) { z.Eras[1].Year, z.Eras[1].Until = 1930, first(2, 3600-90+1) },
	} {
		s := sample()
		change(&s.Zones[1])
		holdCheck(t, what, s, api.OK)
	}
}

// P3.2: an era's end is that of P3.4: what is saved then counts, by Wall alone.
func TestOrderOfEndsHangsOnWhatIsSaved(t *testing.T) {
	zone := func(clock, time int) api.Source {
		until := first(1, time)
		until.Clock = clock
		return api.Source{Zones: []api.Zone{{Name: "One", Eras: []api.Era{
			{Format: "X", Ends: true, Year: 1950, Until: first(1, 7200)},
			{Format: "Y", Save: 3600, Offset: 100, Ends: true, Year: 1950, Until: until},
			{Format: "Z"},
		}}}}
	}
	for _, c := range []struct{ clock, last int }{
		{api.Wall, 7200 + 3600 + 100}, {api.Standard, 7200 + 100}, {api.World, 7200},
	} {
		holdCheck(t, fmt.Sprint("at once, by clock ", c.clock), zone(c.clock, c.last), api.ErrOrder)
		holdCheck(t, fmt.Sprint("a second behind, by clock ", c.clock), zone(c.clock, c.last+1), api.OK)
	}
}

// P3.2: order is held between all neighbours, not only the first two.
func TestOrderOfAllEnds(t *testing.T) {
	for i := 1; i < api.MaxEras-1; i++ {
		z := zoneOf(api.MaxEras)
		z.Eras[i].Year--
		holdCheck(t, fmt.Sprint("the same end at ", i), api.Source{Zones: []api.Zone{z}}, api.ErrOrder)
	}
}

// chain of links, from names behind on, to a zone.
func chain(n int) api.Source {
	s := api.Source{Zones: []api.Zone{{Name: "L0", Eras: []api.Era{{Format: "X"}}}}}
	for i := range n {
		s.Links = append(s.Links, api.Link{Of: fmt.Sprint("L", i), Name: fmt.Sprint("L", i+1)})
	}
	return s
}

// P3.5: so many links in a row, and one more, in either order.
func TestLinksInARow(t *testing.T) {
	for n := range 2 * api.MaxLinks {
		want := api.OK
		if n > api.MaxLinks {
			want = api.ErrLoop
		}
		s := chain(n)
		holdCheck(t, fmt.Sprint(n, " links in a row"), s, want)
		for i, j := 0, n-1; i < j; i, j = i+1, j-1 {
			s.Links[i], s.Links[j] = s.Links[j], s.Links[i]
		}
		holdCheck(t, fmt.Sprint(n, " links in a row, the last one first"), s, want)
	}
}

// P3.5: loops of all sizes, that no zone is in.
func TestLoopsOfLinks(t *testing.T) {
	for n := 1; n < 12; n++ {
		var s api.Source
		for i := range n {
			s.Links = append(s.Links, api.Link{Of: fmt.Sprint("L", (i+1)%n), Name: fmt.Sprint("L", i)})
		}
		holdCheck(t, fmt.Sprint("loop of ", n), s, api.ErrLoop)
		s.Links = append(s.Links, api.Link{Of: "Nowhere", Name: "Last"})
		holdCheck(t, fmt.Sprint("loop of ", n, ", and one of none"), s, api.ErrNone)
	}
}

// P3.5: links may stand ahead of what they are of; names of rules are others.
func TestLinksThatMayBe(t *testing.T) {
	s := sample()
	s.Links = []api.Link{{Of: "Four", Name: "Five"}, {Of: "Two", Name: "Four"}, {Of: "One", Name: "A"}}
	holdCheck(t, "links ahead", s, api.OK)
}

// Check ends, whatever it is given, and changes nothing.
func TestCheckEndsWhateverItIsGiven(t *testing.T) {
	numbers := []int{math.MinInt, -1, 0, 1, 2, 1900, 2099, math.MaxInt}
	texts := []string{"", "A", "%s", "/", "\xff", strings.Repeat("x", 1000)}
	d := die(1)
	number := func() int { return numbers[d.below(len(numbers))] }
	text := func() string { return texts[d.below(len(texts))] }
	moment := func() api.Moment {
		return api.Moment{Month: number(), Day: api.Day{Kind: number(), W: number(), N: number()}, Time: number(), Clock: number()}
	}
	for range 20000 {
		var s api.Source
		for range d.below(3) {
			s.Rules = append(s.Rules, api.Rule{Name: text(), From: number(), To: number(), At: moment(), Save: number(), Letters: text()})
		}
		for range d.below(3) {
			z := api.Zone{Name: text()}
			for range d.below(3) {
				z.Eras = append(z.Eras, api.Era{Offset: number(), Rules: text(), Save: number(), Format: text(), Ends: d.below(2) == 0, Year: number(), Until: moment()})
			}
			s.Zones = append(s.Zones, z)
		}
		for range d.below(3) {
			s.Links = append(s.Links, api.Link{Of: text(), Name: text()})
		}
		before := copied(s)
		e := Check(s)
		if _, f := At(s, "A", number()); e != api.OK && e != f {
			t.Fatalf("%+v: Check %v, At %v", s, e, f)
		}
		if _, f := Spans(s, "A"); e != api.OK && e != f {
			t.Fatalf("%+v: Check %v, Spans %v", s, e, f)
		}
		if !reflect.DeepEqual(s, before) {
			t.Fatalf("%+v: changed to %+v", before, s)
		}
	}
}

// copied: a source with lists of its own.
func copied(s api.Source) api.Source {
	c := api.Source{
		Rules: append([]api.Rule(nil), s.Rules...),
		Zones: append([]api.Zone(nil), s.Zones...),
		Links: append([]api.Link(nil), s.Links...),
	}
	for i := range c.Zones {
		c.Zones[i].Eras = append([]api.Era(nil), c.Zones[i].Eras...)
	}
	return c
}

// What source.Read answers may be, but for what it does not look at.
func TestCheckOfWhatIsRead(t *testing.T) {
	for text, want := range map[string]api.Errno{
		"":                                               api.OK,
		"# nothing":                                      api.OK,
		"Zone One 1:00 - X":                              api.OK,
		"Zone One 1:00 A X":                              api.ErrNone,
		"Link One Two":                                   api.ErrNone,
		"Link One One":                                   api.ErrLoop,
		"Link One Two\nLink Two One":                     api.ErrLoop,
		"Zone One 0 - X\nZone One 0 - Y":                 api.ErrTwice,
		"Zone One 0 - X 1950\n0 - Y 1950\n0 - Z":         api.ErrOrder,
		"Zone One 0 - X 1950 Feb 29\n0 - Y":              api.ErrRange,
		"Zone One 0 - X\nLink One One":                   api.ErrTwice,
		"Zone One 0 - X\nLink One Two\nLink One Two":     api.ErrTwice,
		"Rule A 1900 max - Feb 30 0 0 -\nZone One 0 A X": api.OK,
		"Rule A 1900 only - Jan 1 0 0 -\nZone One -24:00 A %s":  api.OK,
		"Link Two Three\nLink One Two\nZone One 0 1:00 A/B":     api.OK,
		"Zone One 0 - X 1950\n0 - Y 1951\n0 - Z\nLink One Two ": api.OK,
	} {
		s, line, e := source.Read(text)
		if e != api.OK {
			t.Fatalf("%q: line %d: %v", text, line, e)
		}
		holdCheck(t, fmt.Sprintf("%q", text), s, want)
	}
}
