package tzc

import (
	"math"
	"slices"
	"testing"

	"sundial/api"
	"sundial/code"
)

// telling: a program that tells one answer, whatever is asked.
func telling(a api.Answer) api.Program {
	return api.Program{Code: []api.Instr{{Op: api.Tell}}, Answers: []api.Answer{a}}
}

// refusedPrograms: those that Run refuses, of each error one.
func refusedPrograms() []api.Program {
	tell := api.Instr{Op: api.Tell}
	good := []api.Answer{{Offsets: []int{1}}}
	many := make([]int, api.MaxList+1)
	return []api.Program{
		{},
		{Answers: good},
		{Code: []api.Instr{tell}, Answers: []api.Answer{{Offsets: many}}},
		{Code: []api.Instr{tell}, Answers: []api.Answer{{Jump: 1<<40 + 1}}},
		{Code: []api.Instr{tell}},
		{Code: []api.Instr{tell, {Op: 7}}, Answers: good},
		{Code: []api.Instr{tell, {Op: api.Push}}, Answers: good},
		{Code: []api.Instr{{Op: api.Less}, tell}, Answers: good},
		{Code: []api.Instr{{Op: api.Arg}}, Answers: good},
		{Code: []api.Instr{{Op: api.Arg}, {Op: api.Arg}, {Op: api.Skip, N: 1}, {Op: api.Arg}, tell}, Answers: good},
	}
}

// holdLookup: what Lookup answers; with an error no clock.
func holdLookup(t *testing.T, l []api.Found, n string, at int, want api.Clock, e api.Errno) {
	t.Helper()
	if c, f := Lookup(l, n, at); c != want || f != e {
		t.Errorf("%q at %d: %v, %v, want %v, %v", n, at, c, f, want, e)
	}
}

// holdLocal: what Local answers; with an error neither instants nor a jump.
func holdLocal(t *testing.T, l []api.Found, n string, local int, want []int, jump int, e api.Errno) {
	t.Helper()
	if at, j, f := Local(l, n, local); !slices.Equal(at, want) || j != jump || f != e {
		t.Errorf("%q shows %d: %v, %d, %v, want %v, %d, %v", n, local, at, j, f, want, jump, e)
	}
}

// P6.2: the window's first and last instants, and the ones beside them.
func TestLookupAtTheWindowsEdges(t *testing.T) {
	first, last := api.Clock{Name: "A"}, api.Clock{Offset: 86400, Saving: true, Name: "C"}
	for ways := range allWays + 1 {
		l := compiled(t, "Zone Z 0 - A 1900 Jan 1 0:00:01u\n1 - B 2099 Dec 31 23:59:59u\n0 24:00 C\nLink Z L", ways)
		for _, n := range []string{"Z", "L"} {
			holdLookup(t, l, n, begin, first, api.OK)
			holdLookup(t, l, n, begin+1, api.Clock{Offset: 3600, Name: "B"}, api.OK)
			holdLookup(t, l, n, end-2, api.Clock{Offset: 3600, Name: "B"}, api.OK)
			holdLookup(t, l, n, end-1, last, api.OK)
			for _, at := range []int{math.MinInt, -1 << 40, begin - 1, end, end + 1, 1 << 40, math.MaxInt} {
				holdLookup(t, l, n, at, api.Clock{}, api.ErrRange)
			}
		}
	}
}

// P6.3: the greatest amounts, and the ones beside them.
func TestLocalAtTheGreatestAmounts(t *testing.T) {
	const most = 1 << 40
	for ways := range allWays + 1 {
		l := compiled(t, "Link Z L\nZone Z -24:00 - A 2000\n24:00 - B", ways)
		for _, n := range []string{"Z", "L"} {
			for _, local := range []int{-most, -most + 1, begin - 86400 - 1} {
				holdLocal(t, l, n, local, nil, begin, api.OK)
			}
			holdLocal(t, l, n, begin-86400, []int{begin}, 0, api.OK)
			holdLocal(t, l, n, end+86400-1, []int{end - 1}, 0, api.OK)
			for _, local := range []int{end + 86400, most - 1, most} {
				holdLocal(t, l, n, local, nil, end, api.OK)
			}
			for _, local := range []int{math.MinInt, math.MinInt + 1, -most - 1, most + 1, math.MaxInt} {
				holdLocal(t, l, n, local, nil, 0, api.ErrRange)
			}
		}
	}
}

// P6.3: more than one instant; they rise, though the offsets fall.
func TestLocalTellsAllInstants(t *testing.T) {
	l := compiled(t, falling(3), allWays) // June 2000: 1:00 to 4:00 by the world's clock
	const june = 959817600
	holdLocal(t, l, "F", june+3*3600, []int{june + 3600, june + 2*3600, june + 3*3600}, 0, api.OK)
	holdLocal(t, l, "F", june+4*3600-1, []int{june + 2*3600 - 1, june + 3*3600 - 1, june + 4*3600 - 1}, 0, api.OK)
	holdLocal(t, l, "F", june+4*3600, []int{june + 4*3600}, 0, api.OK)
	holdLocal(t, l, "F", june+3*3600-1, nil, june+3600, api.OK)
	holdLocal(t, l, "F", june+3600-1, []int{june + 3600 - 1}, 0, api.OK)
	holdLocal(t, l, "F", june+3600, nil, june+3600, api.OK)
}

// P6.2, P6.3: names are held against each other byte by byte.
func TestNoSuchName(t *testing.T) {
	l := compiled(t, town+"\nLink Town City", allWays)
	for _, n := range []string{"", "town", "Tow", "Towns", "Town ", " Town", "Town\x00", "EU", "CET", "\xff"} {
		for _, list := range [][]api.Found{l, nil, {}} {
			holdLookup(t, list, n, 0, api.Clock{}, api.ErrNone)
			holdLocal(t, list, n, 0, nil, 0, api.ErrNone)
		}
	}
	city, town := l[:1], l[1:] // in the order of the names
	holdLookup(t, town, "City", 0, api.Clock{}, api.ErrNone)
	holdLookup(t, city, "Town", 0, api.Clock{}, api.ErrNone)
	holdLookup(t, city, "City", 0, api.Clock{Offset: 3600, Name: "CET"}, api.OK)
	holdLocal(t, city, "City", 3600, []int{0}, 0, api.OK)
	holdLookup(t, town, "Town", 0, api.Clock{Offset: 3600, Name: "CET"}, api.OK)
	holdLocal(t, town, "Town", 3600, []int{0}, 0, api.OK)
}

// P6.2, P6.3: lists that Compile did not make: the first one of a name is asked, and of it the one program.
func TestTheFirstOfAName(t *testing.T) {
	clock := func(offset int) api.Program { return telling(api.Answer{Clock: api.Clock{Offset: offset, Name: "N"}}) }
	shown := func(offsets ...int) api.Program { return telling(api.Answer{Offsets: offsets}) }
	l := []api.Found{
		{Name: "A", Forward: clock(1), Inverse: shown(10, 5)},
		{Name: "B", Forward: clock(2), Inverse: telling(api.Answer{Jump: 77})},
		{Name: "A", Forward: clock(3), Inverse: shown(30)},
		{Name: "", Forward: clock(4)},
		{Name: "C", Inverse: shown(50)},
		{Name: "C", Forward: clock(6), Inverse: shown(60)},
	}
	holdLookup(t, l, "A", 0, api.Clock{Offset: 1, Name: "N"}, api.OK)
	holdLookup(t, l, "B", 0, api.Clock{Offset: 2, Name: "N"}, api.OK)
	holdLookup(t, l, "", 0, api.Clock{Offset: 4, Name: "N"}, api.OK)
	holdLookup(t, l, "C", 0, api.Clock{}, api.ErrNone) // Run refuses: no code
	holdLocal(t, l, "A", 100, []int{90, 95}, 0, api.OK)
	holdLocal(t, l, "B", 100, nil, 77, api.OK)
	holdLocal(t, l, "", 100, nil, 0, api.ErrNone) // Run refuses: no code
	holdLocal(t, l, "C", 100, []int{50}, 0, api.OK)
	holdLocal(t, l[2:], "A", 1<<40, []int{1<<40 - 30}, 0, api.OK)
	holdLocal(t, l[2:], "A", -1<<40, []int{-1<<40 - 30}, 0, api.OK)
}

// P6.2, P6.3: what Run refuses is told last; no such name first.
func TestRefusedPrograms(t *testing.T) {
	good := telling(api.Answer{Clock: api.Clock{Offset: 1}, Offsets: []int{1}})
	seen := map[api.Errno]bool{}
	for _, p := range refusedPrograms() {
		_, _, e := code.Run(p, 0)
		if e == api.OK {
			t.Fatalf("%v may be run", p)
		}
		seen[e] = true
		l := []api.Found{{Name: "F", Forward: p, Inverse: good}, {Name: "I", Forward: good, Inverse: p}, {Name: "F", Forward: good}}
		holdLookup(t, l, "F", 0, api.Clock{}, e)
		holdLookup(t, l, "F", end, api.Clock{}, api.ErrRange)
		holdLookup(t, l, "No", end, api.Clock{}, api.ErrNone)
		holdLookup(t, l, "I", 0, api.Clock{Offset: 1}, api.OK)
		holdLocal(t, l, "I", 0, nil, 0, e)
		holdLocal(t, l, "I", 1<<40+1, nil, 0, api.ErrRange)
		holdLocal(t, l, "No", 1<<40+1, nil, 0, api.ErrNone)
		holdLocal(t, l, "F", 0, []int{-1}, 0, api.OK)
	}
	for _, e := range []api.Errno{api.ErrNone, api.ErrSize, api.ErrRange, api.ErrKind, api.ErrStack, api.ErrShort, api.ErrForm} {
		if !seen[e] {
			t.Errorf("no program is refused with %v", e)
		}
	}
}
