package zones

import (
	"fmt"
	"math"
	"reflect"
	"slices"
	"sort"
	"strings"
	"testing"
	"time"
	"unsafe"

	"sundial/api"
	"sundial/civil"
	"sundial/source"
)

// The window's beginning and end.
const (
	begin = -2208988800
	end   = 4102444800
)

// read a source that must be right.
func read(t *testing.T, lines ...string) api.Source {
	t.Helper()
	s, line, e := source.Read(strings.Join(lines, "\n"))
	if e != api.OK {
		t.Fatalf("%q: line %d: %v", lines, line, e)
	}
	return s
}

// utc: seconds of a time, by the world's clock.
func utc(s string) int {
	x, err := time.Parse("2006-01-02 15:04:05", s)
	if err != nil {
		panic(err)
	}
	return int(x.Unix())
}

// holdAt: a clock from an instant on, and another one a second ahead.
func holdAt(t *testing.T, s api.Source, n string, at int, ahead, behind api.Clock) {
	t.Helper()
	if c, e := At(s, n, at-1); c != ahead || e != api.OK {
		t.Errorf("a second ahead of %d: %v, %v, want %v", at, c, e, ahead)
	}
	if c, e := At(s, n, at); c != behind || e != api.OK {
		t.Errorf("at %d: %v, %v, want %v", at, c, e, behind)
	}
}

// holdSpans: all of a name.
func holdSpans(t *testing.T, s api.Source, n string, want ...api.Span) {
	t.Helper()
	if l, e := Spans(s, n); !slices.Equal(l, want) || e != api.OK {
		t.Errorf("%s: %v, %v, want %v", n, l, e, want)
	}
}

func span(from, offset int, saving bool, name string) api.Span {
	return api.Span{From: from, Clock: api.Clock{Offset: offset, Saving: saving, Name: name}}
}

// town of the document's example.
func town(t *testing.T) api.Source {
	return read(t,
		"Rule EU 1980 max - Mar lastSun 1:00u 1:00 S",
		"Rule EU 1980 max - Oct lastSun 1:00u 0 -",
		"Zone Town 1:00 EU CE%sT")
}

func TestTheDocumentsExample(t *testing.T) {
	s := town(t)
	winter, summer := api.Clock{Offset: 3600, Name: "CET"}, api.Clock{Offset: 7200, Saving: true, Name: "CEST"}
	if c, e := At(s, "Town", 0); c != winter || e != api.OK {
		t.Errorf("at 0: %v, %v", c, e)
	}
	holdAt(t, s, "Town", 954032400, winter, summer)
	holdAt(t, s, "Town", utc("2000-10-29 01:00:00"), summer, winter)
	holdAt(t, s, "Town", utc("2099-10-25 01:00:00"), summer, winter)
}

// P3.3, P3.6: turns by each clock: an offset counts by Wall and by Standard, what the turn ahead saves by Wall.
func TestTurnsByEachClock(t *testing.T) {
	for _, c := range []struct {
		letter          string
		spring, autumn2 int
	}{
		{"", utc("1950-04-01 01:00:00"), utc("1950-10-01 00:00:00")},
		{"w", utc("1950-04-01 01:00:00"), utc("1950-10-01 00:00:00")},
		{"s", utc("1950-04-01 01:00:00"), utc("1950-10-01 01:00:00")},
		{"u", utc("1950-04-01 02:00:00"), utc("1950-10-01 02:00:00")},
	} {
		s := read(t,
			"Rule A 1950 only - Apr 1 2:00"+c.letter+" 1:00 S",
			"Rule A 1950 only - Oct 1 2:00"+c.letter+" 0 W",
			"Zone One 1:00 A X%s")
		holdSpans(t, s, "One", span(begin, 3600, false, "XW"),
			span(c.spring, 7200, true, "XS"), span(c.autumn2, 3600, false, "XW"))
	}
}

// P3.3: the first turn of all has none ahead, and so nothing saved; a year's first one has the last one of the year ahead.
func TestWhatTheTurnAheadSaves(t *testing.T) {
	s := read(t,
		"Rule A 1950 1951 - Dec 1 2:00 1:00 S",
		"Rule A 1950 1951 - Feb 1 2:00 0:20 T",
		"Zone One 0 A X%s")
	holdSpans(t, s, "One", span(begin, 0, false, "X"),
		span(utc("1950-02-01 02:00:00"), 1200, true, "XT"),
		span(utc("1950-12-01 01:40:00"), 3600, true, "XS"),
		span(utc("1951-02-01 01:00:00"), 1200, true, "XT"),
		span(utc("1951-12-01 01:40:00"), 3600, true, "XS"))
}

// P3.3: turns that are told the same are in the order of their rules: the last one holds, and the one ahead of it counts by Wall.
func TestTurnsToldTheSame(t *testing.T) {
	lines := []string{
		"Rule A 1950 only - Apr 1 2:00 1:00 S",
		"Rule A 1950 only - Apr 1 2:00u 0:30 T",
		"Zone One 0 A X%s",
	}
	holdSpans(t, read(t, lines...), "One", span(begin, 0, false, "X"), span(utc("1950-04-01 02:00:00"), 1800, true, "XT"))
	lines[0], lines[1] = lines[1], lines[0]
	holdSpans(t, read(t, lines...), "One", span(begin, 0, false, "X"), span(utc("1950-04-01 01:30:00"), 3600, true, "XS"))
	// Rules that stand far from each other, and others of another name between them.
	var many []string
	for i := range 30 {
		many = append(many, fmt.Sprintf("Rule A 1950 only - Apr 1 2:00u 0:%02d %c", i, 'a'+i%26), "Rule B 1950 only - Apr 1 2:00u 9:00 B")
	}
	s := read(t, append(many, "Zone One 0 A X%s")...)
	holdSpans(t, s, "One", span(begin, 0, false, "Xa"), span(utc("1950-04-01 02:00:00"), 29*60, true, "Xd"))
}

// P3.3: what counts is the last turn in the order of what they are told, though another one's instant is behind its own.
func TestTurnsWhoseInstantsAreInAnotherOrder(t *testing.T) {
	s := read(t,
		"Rule A 1950 only - Apr 1 20:00u 1:00 S",
		"Rule A 1950 only - Apr 1 22:00s 0:30 T",
		"Rule A 1951 only - Apr 1 20:00u 1:00 S",
		"Rule A 1951 only - Apr 1 19:00s 0:30 T",
		"Zone One 10:00 A X%s")
	holdSpans(t, s, "One", span(begin, 36000, false, "X"),
		span(utc("1950-04-01 12:00:00"), 37800, true, "XT"),
		span(utc("1951-04-01 20:00:00"), 39600, true, "XS"))
	// A turn that begins behind others, but stands ahead of them, is never seen; as far as two offsets away.
	s = read(t,
		"Rule A 1950 only - Mar 30 0u 24:00 R",
		"Rule A 1950 only - Apr 1 0 1:00 S",
		"Rule A 1950 only - Apr 2 23:59:59u 2:00 T",
		"Zone One -24:00 A X%s",
		"Zone Two 24:00 A X%s")
	holdSpans(t, s, "One", span(begin, -86400, false, "X"),
		span(utc("1950-03-30 00:00:00"), 0, true, "XR"),
		span(utc("1950-04-01 00:00:00"), 3600-86400, true, "XS"),
		span(utc("1950-04-02 23:59:59"), 7200-86400, true, "XT"))
	holdSpans(t, s, "Two", span(begin, 86400, false, "X"),
		span(utc("1950-03-30 00:00:00"), 3600+86400, true, "XS"),
		span(utc("1950-04-02 23:59:59"), 7200+86400, true, "XT"))
}

// P3.3: an instant may be two offsets away from what is told, on either side of it.
func TestTurnsFarFromWhatTheyAreTold(t *testing.T) {
	s := read(t,
		"Rule A 1950 only - Mar 1 0u 24:00 R",
		"Rule A 1950 only - Apr 1 0 -24:00 S",
		"Rule A 1950 only - May 1 0 0 T",
		"Zone One -24:00 A X%s",
		"Zone Two 24:00 A X%s")
	holdSpans(t, s, "One", span(begin, -86400, false, "XT"),
		span(utc("1950-03-01 00:00:00"), 0, true, "XR"),
		span(utc("1950-04-01 00:00:00"), -2*86400, true, "XS"),
		span(utc("1950-05-03 00:00:00"), -86400, false, "XT"))
	holdSpans(t, s, "Two", span(begin, 86400, false, "XT"),
		span(utc("1950-03-01 00:00:00"), 2*86400, true, "XR"),
		span(utc("1950-03-30 00:00:00"), 0, true, "XS"),
		span(utc("1950-05-01 00:00:00"), 86400, false, "XT"))
}

// P3.3: there is a turn only in years in which the day is found.
func TestYearsInWhichNoDayIsFound(t *testing.T) {
	s := read(t,
		"Rule A 1900 1909 - Feb 29 0u 1:00 S",
		"Rule A 1900 1909 - Mar 1 0u 0 -",
		"Rule A 1900 max - Feb 30 0u 2:00 N",
		"Zone One 0 A X%s")
	holdSpans(t, s, "One", span(begin, 0, false, "X"),
		span(utc("1904-02-29 00:00:00"), 3600, true, "XS"), span(utc("1904-03-01 00:00:00"), 0, false, "X"),
		span(utc("1908-02-29 00:00:00"), 3600, true, "XS"), span(utc("1908-03-01 00:00:00"), 0, false, "X"))
}

// P3.3: days may be in the next month, or in the one ahead, and times behind the day's end.
func TestTurnsInOtherMonths(t *testing.T) {
	s := read(t,
		"Rule A 1950 only - Mar Sun<=1 25:00u 1:00 S",
		"Rule A 1950 only - Dec Sat>=31 168:00u 0 -",
		"Zone One 0 A X%s")
	holdSpans(t, s, "One", span(begin, 0, false, "X"),
		span(utc("1950-02-27 01:00:00"), 3600, true, "XS"),
		span(utc("1951-01-13 00:00:00"), 0, false, "X"))
}

// P3.3: ahead of all turns nothing is saved; the letters are those of the first rule of that name that saves 0.
func TestLettersAheadOfAllTurns(t *testing.T) {
	for _, c := range []struct {
		rules []string
		want  string
	}{
		{[]string{"Rule A 1990 only - Jan 1 0 1:00 S"}, "X"},
		{[]string{"Rule A 1990 only - Jan 1 0 1:00 S", "Rule A 1990 only - Feb 1 0 0 W"}, "XW"},
		{[]string{"Rule A 1990 only - Jan 1 0 1:00 S", "Rule A 1999 only - Feb 1 0 0 V", "Rule A 1990 only - Feb 1 0 0 W"}, "XV"},
		{[]string{"Rule A 1990 only - Jan 1 0 0 -", "Rule A 1990 only - Feb 1 0 0 W"}, "X"},
		{[]string{"Rule B 1980 only - Jan 1 0 0 B", "Rule A 1990 only - Jan 1 0 0 A"}, "XA"},
		{[]string{"Rule A 1990 only - Feb 30 0 0 N", "Rule A 1990 only - Jan 1 0 0 A"}, "XN"},
		{[]string{"Rule A 1990 only - Feb 30 0 0 N"}, "XN"},
		{[]string{"Rule A 1990 only - Feb 30 0 1:00 N"}, "X"},
	} {
		s := read(t, append(c.rules, "Zone One 0:30 A X%s")...)
		want := api.Clock{Offset: 1800, Name: c.want}
		if got, e := At(s, "One", 0); got != want || e != api.OK {
			t.Errorf("%q: %v, %v, want %v", c.rules, got, e, want)
		}
	}
}

// P3.3: the turns of an era reach back ahead of its beginning: what they save then holds on in it.
func TestTurnsAheadOfAnErasBeginning(t *testing.T) {
	s := read(t,
		"Rule A 1950 only - Apr 1 0u 1:00 S",
		"Rule A 1950 only - Oct 1 0u 0 W",
		"Rule B 1950 only - Mar 1 0u 2:00 D",
		"Zone One 0 A X%s 1950 Jun 1 0u",
		"0 B Y%s 1950 Nov 1 0u",
		"0 A Z%s")
	holdSpans(t, s, "One", span(begin, 0, false, "XW"),
		span(utc("1950-04-01 00:00:00"), 3600, true, "XS"),
		span(utc("1950-06-01 00:00:00"), 7200, true, "YD"),
		span(utc("1950-11-01 00:00:00"), 0, false, "ZW"))
}

// P3.3: an era without Rules saves always the same, and has no letters.
func TestErasWithoutRules(t *testing.T) {
	s := read(t,
		"Rule A 1900 max - Jan 1 0u 1:00 S",
		"Zone One 1:00 0:30 X%s", "Zone Two 1:00 - X%s", "Zone Three 1:00 -0:30 X/Y", "Zone Four 1:00 - X/Y", "Zone Five 1:00 1:00 X")
	holdSpans(t, s, "One", span(begin, 5400, true, "X"))
	holdSpans(t, s, "Two", span(begin, 3600, false, "X"))
	holdSpans(t, s, "Three", span(begin, 1800, true, "Y"))
	holdSpans(t, s, "Four", span(begin, 3600, false, "X"))
	holdSpans(t, s, "Five", span(begin, 7200, true, "X"))
}

// P3.4: ends by each clock, in eras without Rules.
func TestEndsByEachClock(t *testing.T) {
	for _, c := range []struct {
		era, until string
		want       int
	}{
		{"1:00 -", "1950 Apr 1 2:00", utc("1950-04-01 01:00:00")},
		{"1:00 -", "1950 Apr 1 2:00s", utc("1950-04-01 01:00:00")},
		{"1:00 -", "1950 Apr 1 2:00u", utc("1950-04-01 02:00:00")},
		{"1:00 0:30", "1950 Apr 1 2:00", utc("1950-04-01 00:30:00")},
		{"1:00 0:30", "1950 Apr 1 2:00s", utc("1950-04-01 01:00:00")},
		{"1:00 0:30", "1950 Apr 1 2:00u", utc("1950-04-01 02:00:00")},
		{"1:00 -0:30", "1950 Apr 1 2:00", utc("1950-04-01 01:30:00")},
		{"-1:00 24:00", "1950", utc("1949-12-31 01:00:00")},
		{"0 -", "1950 Jun lastSun 168:00", utc("1950-07-02 00:00:00")},
		{"0 -", "1900 Jan 1 0:00:01", begin + 1},
		{"0 -", "2099 Dec 31 23:59:59", end - 1},
	} {
		s := read(t, "Zone One "+c.era+" X "+c.until, "0 - Y")
		l, e := Spans(s, "One")
		if e != api.OK || len(l) != 2 || l[1] != span(c.want, 0, false, "Y") {
			t.Errorf("%s, %s: %v, %v, want %d", c.era, c.until, l, e, c.want)
			continue
		}
		holdAt(t, s, "One", c.want, l[0].Clock, api.Clock{Name: "Y"})
	}
}

// P3.4: by Wall, what counts is saved a second ahead of the instant that it would be by Standard, not at it.
func TestEndsASecondAround(t *testing.T) {
	for _, c := range []struct {
		until string
		want  int
	}{
		{"1950 Apr 1 2:00", utc("1950-04-01 01:00:00")},    // the turn's own instant: a second ahead nothing is saved
		{"1950 Apr 1 2:00:01", utc("1950-04-01 00:30:01")}, // from then on, half an hour is saved
		{"1950 Apr 1 1:59:59", utc("1950-04-01 00:59:59")},
		{"1950 Oct 1 1:30", utc("1950-10-01 00:00:00")}, // the second turn is at 0:30
		{"1950 Oct 1 1:30:01", utc("1950-10-01 00:30:01")},
		{"1950 Oct 1 1:30:01s", utc("1950-10-01 00:30:01")},
		{"1950 Apr 1 2:00:01s", utc("1950-04-01 01:00:01")},
		{"1950 Apr 1 2:00:01u", utc("1950-04-01 02:00:01")},
	} {
		s := read(t,
			"Rule A 1950 only - Apr 1 2:00 0:30 S",
			"Rule A 1950 only - Oct 1 2:00 0 W",
			"Zone One 1:00 A X%s "+c.until, "0 - Y")
		l, e := Spans(s, "One")
		if last := len(l) - 1; e != api.OK || last < 1 || l[last] != span(c.want, 0, false, "Y") {
			t.Errorf("until %s: %v, %v, want %d", c.until, l, e, c.want)
		}
	}
}

// P3.6: names of zones and links, however many links are in a row.
func TestAtOfLinks(t *testing.T) {
	s := chain(api.MaxLinks)
	s.Zones = append(s.Zones, api.Zone{Name: "Other", Eras: []api.Era{{Offset: 1, Format: "Z"}}})
	s.Links = append(s.Links, api.Link{Of: "Other", Name: "More"})
	for i := range api.MaxLinks + 1 {
		if c, e := At(s, fmt.Sprint("L", i), 5); c != (api.Clock{Name: "X"}) || e != api.OK {
			t.Errorf("L%d: %v, %v", i, c, e)
		}
		holdSpans(t, s, fmt.Sprint("L", i), span(begin, 0, false, "X"))
	}
	for _, n := range []string{"Other", "More"} {
		if c, e := At(s, n, 5); c != (api.Clock{Offset: 1, Name: "Z"}) || e != api.OK {
			t.Errorf("%s: %v, %v", n, c, e)
		}
	}
}

// P3.6, P3.7: names that there are not, among them those of rules.
func TestNoSuchName(t *testing.T) {
	s := sample()
	for _, n := range []string{"", "A", "B", "one", "One ", "Six", "\xff", strings.Repeat("x", 10000)} {
		if c, e := At(s, n, 0); c != (api.Clock{}) || e != api.ErrNone {
			t.Errorf("At of %.30q: %v, %v", n, c, e)
		}
		if c, e := At(s, n, end); c != (api.Clock{}) || e != api.ErrNone {
			t.Errorf("At of %.30q, outside: %v, %v", n, c, e)
		}
		if l, e := Spans(s, n); len(l) != 0 || e != api.ErrNone {
			t.Errorf("Spans of %.30q: %v, %v", n, l, e)
		}
	}
	if c, e := At(api.Source{}, "One", 0); c != (api.Clock{}) || e != api.ErrNone {
		t.Errorf("At of nothing: %v, %v", c, e)
	}
}

// P3.6: instants at the window's edges.
func TestAtTheWindowsEdges(t *testing.T) {
	s := town(t)
	for _, at := range []int{begin, begin + 1, end - 1} {
		if c, e := At(s, "Town", at); c != (api.Clock{Offset: 3600, Name: "CET"}) || e != api.OK {
			t.Errorf("at %d: %v, %v", at, c, e)
		}
	}
	for _, at := range []int{math.MinInt, begin - 1, end, math.MaxInt} {
		if c, e := At(s, "Town", at); c != (api.Clock{}) || e != api.ErrRange {
			t.Errorf("at %d: %v, %v", at, c, e)
		}
	}
}

// P3.6: what a clock is called.
func TestNamesOfClocks(t *testing.T) {
	for _, c := range []struct{ format, letters, standard, saving string }{
		{"X", "S", "X", "X"},
		{"X%sT", "S", "XT", "XST"},
		{"%s", "S", "", "S"},
		{"%sX", "S", "X", "SX"},
		{"X%s", "abcdef", "X", "Xabcdef"},
		{"X%s", "-", "X", "X"},
		{"P/Q", "S", "P", "Q"},
		{"+01/-0230", "S", "+01", "-0230"},
		{"abcde%sfghij", "uvwxyz", "abcdefghij", "abcdeuvwxyzfghij"},
	} {
		s := read(t, "Rule A 1970 only - Jan 1 0u 1:00 "+c.letters, "Zone One 0 A "+c.format)
		holdAt(t, s, "One", 0, api.Clock{Name: c.standard}, api.Clock{Offset: 3600, Saving: true, Name: c.saving})
		// Letters stand there too where nothing is saved; of two names, the first one does.
		s = read(t, "Rule A 1970 only - Jan 1 0u 0 "+c.letters, "Zone One 0 A "+c.format)
		want := c.saving
		if strings.Contains(c.format, "/") {
			want = c.standard
		}
		if got, e := At(s, "One", 0); got != (api.Clock{Name: want}) || e != api.OK {
			t.Errorf("%+v: %v, %v", c, got, e)
		}
	}
}

// P3.7: of neighbours that show the same, one span; of such that differ only in a name, or in whether they save, two.
func TestSpansOfClocksThatAreTheSame(t *testing.T) {
	s := read(t,
		"Rule A 1950 1960 - Apr 1 0u 0 -",
		"Zone One 1:00 A X 1955 Jun 1 0u", "1:00 - X 1970 Jun 1 0u", "1:00 - Y 1971 Jan 1 0u", "0 1:00 Y 1972 Jan 1 0u", "1:00 - Y")
	holdSpans(t, s, "One", span(begin, 3600, false, "X"),
		span(utc("1970-06-01 00:00:00"), 3600, false, "Y"),
		span(utc("1971-01-01 00:00:00"), 3600, true, "Y"),
		span(utc("1972-01-01 00:00:00"), 3600, false, "Y"))
}

// P3.7: turns and ends at the window's beginning and end, a second ahead of them, and behind them.
func TestSpansAtTheWindowsEdges(t *testing.T) {
	for _, c := range []struct {
		lines []string
		want  []api.Span
	}{
		{[]string{"Zone One 0 - X 1900 Jan 1 0", "0 - Y"}, []api.Span{span(begin, 0, false, "Y")}},
		{[]string{"Zone One 1:00 - X 1900 Jan 1 0", "0 - Y"}, []api.Span{span(begin, 0, false, "Y")}},
		{[]string{"Zone One 0 - X 1900 Jan 1 0:00:01", "0 - Y"}, []api.Span{span(begin, 0, false, "X"), span(begin+1, 0, false, "Y")}},
		{[]string{"Zone One 0 - X 2099 Dec 31 23:59:59", "0 - Y"}, []api.Span{span(begin, 0, false, "X"), span(end-1, 0, false, "Y")}},
		{[]string{"Zone One 0 - X 2099 Dec 31 24:00", "0 - Y"}, []api.Span{span(begin, 0, false, "X")}},
		{[]string{"Zone One 0 - X 2099 Dec 31 25:00", "0 - Y 2099 Dec 31 26:00", "0 - Z"}, []api.Span{span(begin, 0, false, "X")}},
		{[]string{"Zone One 24:00 - X 1900 Jan 1 0", "0 - Y 1900 Jan 1 0", "0 - Z"}, []api.Span{span(begin, 0, false, "Z")}},
		{[]string{"Rule A 1900 only - Jan 1 0u 1:00 S", "Zone One 0 A X%s"}, []api.Span{span(begin, 3600, true, "XS")}},
		{[]string{"Rule A 1900 only - Jan 1 0 1:00 S", "Zone One 24:00 A X%s"}, []api.Span{span(begin, 90000, true, "XS")}},
		{[]string{"Rule A 1900 only - Jan 1 0:00:01u 1:00 S", "Zone One 0 A X%s"}, []api.Span{span(begin, 0, false, "X"), span(begin+1, 3600, true, "XS")}},
		{[]string{"Rule A 2099 only - Dec 31 23:59:59u 1:00 S", "Zone One 0 A X%s"}, []api.Span{span(begin, 0, false, "X"), span(end-1, 3600, true, "XS")}},
		{[]string{"Rule A 2099 only - Dec 31 24:00u 1:00 S", "Zone One 0 A X%s"}, []api.Span{span(begin, 0, false, "X")}},
		{[]string{"Rule A 2099 only - Dec 31 24:00 1:00 S", "Zone One 0:00:01 A X%s"}, []api.Span{span(begin, 1, false, "X"), span(end-1, 3601, true, "XS")}},
	} {
		holdSpans(t, read(t, c.lines...), "One", c.want...)
	}
}

// P3.7: a turn at an era's beginning is the era's; one at its end is not seen in it.
func TestTurnsAtAnErasEdges(t *testing.T) {
	s := read(t,
		"Rule A 1950 only - Apr 1 0u 1:00 S",
		"Rule A 1951 only - Apr 1 0u 2:00 T",
		"Zone One 0 - X 1950 Apr 1 0u", "0 A Y%s 1951 Apr 1 0u", "0 - Z")
	holdSpans(t, s, "One", span(begin, 0, false, "X"),
		span(utc("1950-04-01 00:00:00"), 3600, true, "YS"),
		span(utc("1951-04-01 00:00:00"), 0, false, "Z"))
}

// manySpans: a source of so many spans, up to 1001.
func manySpans(n int) api.Source {
	s := api.Source{Zones: []api.Zone{{Name: "One", Eras: []api.Era{{Rules: "A", Format: "X%s"}}}}}
	for i := range 5 {
		s.Rules = append(s.Rules, api.Rule{Name: "A", From: api.FirstYear, To: api.LastYear, At: first(2+2*i, 0), Save: 60 * (i + 1)})
	}
	s.Rules[4].From += api.MaxSpans + 1 - n
	return s
}

// P3.7: as many spans as may be, and one more.
func TestHowManySpans(t *testing.T) {
	for _, n := range []int{api.MaxSpans - 1, api.MaxSpans} {
		if l, e := Spans(manySpans(n), "One"); len(l) != n || e != api.OK {
			t.Errorf("%d spans: %d, %v", n, len(l), e)
		}
	}
	s := manySpans(api.MaxSpans + 1)
	if l, e := Spans(s, "One"); len(l) != 0 || e != api.ErrSize {
		t.Errorf("many spans: %d, %v", len(l), e)
	}
	holdCheck(t, "many spans", s, api.OK)
	if c, e := At(s, "One", 0); c != (api.Clock{Offset: 300, Saving: true, Name: "X"}) || e != api.OK {
		t.Errorf("many spans: %v, %v", c, e)
	}
	// Turns at which nothing changes are no spans.
	for i := range s.Rules {
		s.Rules[i].Save = 0
	}
	holdSpans(t, s, "One", span(begin, 0, false, "X"))
}

// The greatest source ends soon.
func TestTheGreatestSource(t *testing.T) {
	var s api.Source
	for i := range api.MaxLines {
		s.Rules = append(s.Rules, api.Rule{Name: "A", From: api.FirstYear, To: api.LastYear, At: first(1+i%12, i*1000), Save: i % 5})
	}
	for i := range api.MaxLines {
		z := zoneOf(api.MaxEras)
		z.Name = fmt.Sprint("z", i)
		for j := range z.Eras {
			z.Eras[j].Rules = "A"
		}
		s.Zones = append(s.Zones, z)
		s.Links = append(s.Links, api.Link{Of: z.Name, Name: fmt.Sprint("l", i)})
	}
	holdCheck(t, "greatest", s, api.OK)
	if _, e := Spans(s, "l5"); e != api.ErrSize {
		t.Errorf("greatest: %v", e)
	}
}

// What is answered is new memory; what is handed in stays, its spare room too.
func TestAnswersAreNewMemory(t *testing.T) {
	for _, format := range []string{"LONGNAME", "FIRST/SECOND", "%s", "A%sB"} {
		s := api.Source{
			Rules: append(make([]api.Rule, 0, 4), api.Rule{Name: "A", From: 1970, To: 1980, At: first(3, 0), Save: 3600, Letters: "SUMMER"}, api.Rule{Name: "A", From: 1970, To: 1980, At: first(9, 0), Letters: "WINTER"}),
			Zones: append(make([]api.Zone, 0, 4), api.Zone{Name: "One", Eras: append(make([]api.Era, 0, 4), api.Era{Rules: "A", Format: format})}),
			Links: append(make([]api.Link, 0, 4), api.Link{Of: "One", Name: "Two"}),
		}
		before, spare := copied(s), copied(withRoom(s))
		l, e := Spans(s, "Two")
		m, _ := Spans(s, "Two")
		if e != api.OK || len(l) != 23 {
			t.Fatalf("%s: %d spans, %v", format, len(l), e)
		}
		l = l[:cap(l)]
		for i := range l {
			l[i] = span(1, 1, true, "changed")
		}
		if again, _ := Spans(s, "Two"); !slices.Equal(m, again) {
			t.Errorf("%s: an answer is shared", format)
		}
		c, _ := At(s, "Two", 10000000)
		texts := []string{format, "SUMMER", "WINTER", s.Rules[0].Letters, s.Rules[1].Letters}
		for _, x := range append(m, api.Span{Clock: c}) {
			for _, text := range texts {
				if shares(x.Clock.Name, text) {
					t.Errorf("%s: the name %s shares memory with %s", format, x.Clock.Name, text)
				}
			}
		}
		if !reflect.DeepEqual(s, before) || !reflect.DeepEqual(copied(withRoom(s)), spare) {
			t.Errorf("%s: the source is changed", format)
		}
	}
}

// withRoom: a source with its lists' spare room as elements.
func withRoom(s api.Source) api.Source {
	s = api.Source{Rules: s.Rules[:cap(s.Rules)], Zones: slices.Clone(s.Zones[:cap(s.Zones)]), Links: s.Links[:cap(s.Links)]}
	for i, z := range s.Zones {
		s.Zones[i].Eras = z.Eras[:cap(z.Eras)]
	}
	return s
}

// shares: does a text lie within another one's memory?
func shares(a, b string) bool {
	if a == "" || b == "" {
		return false
	}
	at, of := uintptr(unsafe.Pointer(unsafe.StringData(a))), uintptr(unsafe.Pointer(unsafe.StringData(b)))
	return at >= of && at < of+uintptr(len(b))
}

// die: numbers that look drawn, the same each time.
type die uint64

func (d *die) below(n int) int {
	*d = *d*6364136223846793005 + 1442695040888963407
	return int(uint64(*d>>33) % uint64(n))
}

// pick one of a list.
func pick[T any](d *die, l ...T) T { return l[d.below(len(l))] }

// plainTurn: one of an era, as P3.3 says it.
type plainTurn struct {
	told, at, save int
	letters        string
}

func plainTurns(s api.Source, era api.Era) []plainTurn {
	var l []plainTurn
	var clocks []int
	var order []int
	for _, r := range s.Rules {
		for y := r.From; y <= r.To && r.Name == era.Rules; y++ {
			if n, e := civil.Find(y, r.At.Month, r.At.Day); e == api.OK {
				order = append(order, len(l))
				clocks = append(clocks, r.At.Clock)
				l = append(l, plainTurn{told: n*day + r.At.Time, save: r.Save, letters: r.Letters})
			}
		}
	}
	sort.SliceStable(order, func(i, j int) bool { return l[order[i]].told < l[order[j]].told })
	var sorted []plainTurn
	ahead := 0
	for _, i := range order {
		x := l[i]
		x.at = x.told
		if clocks[i] == api.Wall || clocks[i] == api.Standard {
			x.at -= era.Offset
		}
		if clocks[i] == api.Wall {
			x.at -= ahead
		}
		ahead = x.save
		sorted = append(sorted, x)
	}
	return sorted
}

func plainSaved(s api.Source, era api.Era, turns []plainTurn, t int) (int, string) {
	if era.Rules == "" {
		return era.Save, ""
	}
	save, letters, found := 0, "", false
	for _, x := range turns {
		if x.at <= t {
			save, letters, found = x.save, x.letters, true
		}
	}
	for _, r := range s.Rules {
		if !found && r.Name == era.Rules && r.Save == 0 {
			return 0, r.Letters
		}
	}
	return save, letters
}

// plain zone: the turns and the ends of its eras, found in the plainest way.
type plain struct {
	s     api.Source
	eras  []api.Era
	turns [][]plainTurn
	ends  []int
}

func plainly(s api.Source, z api.Zone) plain {
	p := plain{s: s, eras: z.Eras}
	for _, era := range z.Eras {
		turns := plainTurns(s, era)
		p.turns = append(p.turns, turns)
		if !era.Ends {
			continue
		}
		until := era.Until
		if until.Clock == api.Wall {
			until.Clock = api.Standard
		}
		at, _ := civil.Instant(era.Year, until, era.Offset, 0)
		if era.Until.Clock == api.Wall {
			save, _ := plainSaved(s, era, turns, at-1)
			at -= save
		}
		p.ends = append(p.ends, at)
	}
	return p
}

// inOrder: is each end behind the one ahead?
func (p plain) inOrder() bool {
	for i := 1; i < len(p.ends); i++ {
		if p.ends[i] <= p.ends[i-1] {
			return false
		}
	}
	return true
}

func (p plain) clock(t int) api.Clock {
	i := 0
	for i < len(p.ends) && p.ends[i] <= t {
		i++
	}
	era := p.eras[i]
	save, letters := plainSaved(p.s, era, p.turns[i], t)
	c := api.Clock{Offset: era.Offset + save, Saving: save != 0, Name: strings.ReplaceAll(era.Format, "%s", letters)}
	if l := strings.Split(era.Format, "/"); len(l) == 2 {
		c.Name = l[0]
		if c.Saving {
			c.Name = l[1]
		}
	}
	return c
}

// instants at which anything may change, in the window.
func (p plain) instants() []int {
	l := append([]int{begin}, p.ends...)
	for _, turns := range p.turns {
		for _, x := range turns {
			l = append(l, x.at)
		}
	}
	sort.Ints(l)
	return slices.Compact(slices.DeleteFunc(l, func(t int) bool { return t < begin || t >= end }))
}

func (p plain) spans() []api.Span {
	var l []api.Span
	for _, t := range p.instants() {
		if c := p.clock(t); len(l) == 0 || l[len(l)-1].Clock != c {
			l = append(l, api.Span{From: t, Clock: c})
		}
	}
	return l
}

func (d *die) moment() api.Moment {
	m := api.Moment{
		Month: pick(d, 1, 1, 2, 2, 3, 12, 12),
		Day:   pick(d, api.Day{Kind: api.On, N: 1}, api.Day{Kind: api.On, N: 2}, api.Day{Kind: api.Last, W: d.below(7)}, api.Day{Kind: api.After, W: d.below(7), N: 25}, api.Day{Kind: api.Before, W: d.below(7), N: 3}),
		Time:  pick(d, 0, 0, 3600, 7200, day-1, day, api.MaxTime),
		Clock: d.below(3),
	}
	return m
}

func (d *die) offset() int {
	return pick(d, 0, 0, 0, 3600, 7200, -3600, -1800, 1, -1, api.MaxOffset, -api.MaxOffset)
}

// source that looks drawn; in few years, so that turns and ends come close to each other.
func (d *die) source() api.Source {
	var s api.Source
	low := pick(d, api.FirstYear, 1950, 2000, api.LastYear-3)
	year := func() int { return low + d.below(4) }
	s.Rules = []api.Rule{{Name: "B", From: low, To: low, At: d.moment(), Save: d.offset()}}
	for range 1 + d.below(8) {
		r := api.Rule{Name: pick(d, "A", "A", "B"), From: year(), At: d.moment(), Save: d.offset(), Letters: pick(d, "", "S", "W")}
		r.To = r.From + d.below(low+4-r.From)
		s.Rules = append(s.Rules, r)
	}
	s.Rules = append(s.Rules, api.Rule{Name: "A", From: low, To: low, At: d.moment(), Save: d.offset()})
	z := api.Zone{Name: "One"}
	many := d.below(5)
	for y := low; len(z.Eras) < many && y < low+4; y += d.below(2) {
		era := api.Era{Offset: d.offset(), Rules: pick(d, "", "A", "A", "B"), Format: pick(d, "X", "X%s", "P/Q"), Ends: true, Year: y, Until: d.moment()}
		if era.Rules == "" {
			era.Save = d.offset()
		}
		if _, e := civil.Find(era.Year, era.Until.Month, era.Until.Day); e == api.OK {
			z.Eras = append(z.Eras, era)
		}
	}
	z.Eras = append(z.Eras, api.Era{Offset: d.offset(), Rules: pick(d, "", "A", "B"), Format: pick(d, "Y%s", "Z")})
	s.Zones = []api.Zone{z}
	return s
}

// P3.2, P3.3, P3.4, P3.6, P3.7: drawn sources, held against the plainest reading of the document.
func TestDrawnSources(t *testing.T) {
	d := die(7)
	right := 0
	for range 4000 {
		s := d.source()
		p := plainly(s, s.Zones[0])
		if !p.inOrder() {
			holdCheck(t, fmt.Sprintf("%+v", s), s, api.ErrOrder)
			continue
		}
		right++
		holdCheck(t, fmt.Sprintf("%+v", s), s, api.OK)
		holdSpans(t, s, "One", p.spans()...)
		for _, at := range p.instants() {
			for _, at := range []int{at - 1, at, at + 1} {
				if c, e := At(s, "One", at); at >= begin && at < end && (c != p.clock(at) || e != api.OK) {
					t.Errorf("%+v at %d: %v, %v, want %v", s, at, c, e, p.clock(at))
				}
			}
		}
		if t.Failed() {
			t.FailNow()
		}
	}
	if right < 1000 {
		t.Errorf("only %d sources may be", right)
	}
}
