package tzc

import (
	"fmt"
	"math"
	"reflect"
	"slices"
	"strings"
	"testing"

	"sundial/api"
	"sundial/code"
	"sundial/source"
	"sundial/zones"
)

const (
	begin   = -2208988800 // of the window
	end     = 4102444800
	allWays = api.Merge + api.Share + api.Balance
)

const town = "Rule EU 1980 max - Mar lastSun 1:00u 1:00 S\nRule EU 1980 max - Oct lastSun 1:00u 0 -\nZone Town 1:00 EU CE%sT"

// die: numbers that look drawn, the same each time.
type die uint64

func (d *die) below(n int) int {
	*d = *d*6364136223846793005 + 1442695040888963407
	return int(uint64(*d>>33) % uint64(n))
}

func (d *die) pick(l ...string) string { return l[d.below(len(l))] }

// compiled: the programs of a source that must be one of which they can be made.
func compiled(t *testing.T, s string, ways int) []api.Found {
	t.Helper()
	l, line, e := Compile(s, ways)
	if line != 0 || e != api.OK {
		t.Fatalf("%s\nways %d: line %d, %v", s, ways, line, e)
	}
	return l
}

// readOf a source that must be in form.
func readOf(t *testing.T, s string) api.Source {
	t.Helper()
	read, line, e := source.Read(s)
	if e != api.OK {
		t.Fatalf("%s\nline %d: %v", s, line, e)
	}
	return read
}

// spansOf a name of a source, which must be there.
func spansOf(t *testing.T, s api.Source, n string) []api.Span {
	t.Helper()
	l, e := zones.Spans(s, n)
	if e != api.OK {
		t.Fatalf("%s: %v", n, e)
	}
	return l
}

func namesOf(l []api.Found) string {
	var names []string
	for _, f := range l {
		names = append(names, f.Name)
	}
	return strings.Join(names, " ")
}

// plainShown: the instants at which a clock shows so many seconds, and where it jumps over them, span by span as P4.3 says it.
func plainShown(l []api.Span, local int) ([]int, int) {
	var instants []int
	for i, s := range l {
		to := end
		if i+1 < len(l) {
			to = l[i+1].From
		}
		if t := local - s.Clock.Offset; s.From <= t && t < to {
			instants = append(instants, t)
		}
	}
	if len(instants) > 0 {
		return instants, 0
	}
	for _, s := range l {
		if s.From+s.Clock.Offset > local {
			return nil, s.From
		}
	}
	return nil, end
}

// mostInstants: at how many instants at most a clock shows one time; more of them can only be from where a span begins to be shown.
func mostInstants(l []api.Span) int {
	m := 0
	for _, s := range l {
		instants, _ := plainShown(l, s.From+s.Clock.Offset)
		m = max(m, len(instants))
	}
	return m
}

// plainClock: that of the span which an instant is in.
func plainClock(l []api.Span, t int) api.Clock {
	c := l[0].Clock
	for _, s := range l {
		if s.From <= t {
			c = s.Clock
		}
	}
	return c
}

// some of a list, some sixty, from one of the first ones on.
func some(l []int, first int) []int {
	step := 1 + len(l)/60
	var out []int
	for i := first % step; i < len(l); i += step {
		out = append(out, l[i])
	}
	return out
}

// edges of spans: instants around which the clock is another one, and what is shown around them.
func edges(l []api.Span) ([]int, []int) {
	var instants, shown []int
	for i, s := range l {
		instants = append(instants, s.From, max(begin, s.From-1))
		shown = append(shown, s.From+s.Clock.Offset-1, s.From+s.Clock.Offset)
		to := end
		if i+1 < len(l) {
			to = l[i+1].From
		}
		shown = append(shown, to+s.Clock.Offset-1, to+s.Clock.Offset)
	}
	return instants, shown
}

// holdName: what is told of a name, at some of its spans' edges, and at those of all that may be asked.
func holdName(t *testing.T, l []api.Found, s api.Source, n string, first int) {
	t.Helper()
	spans := spansOf(t, s, n)
	instants, shown := edges(spans)
	for _, i := range append(some(instants, first), begin, begin+1, 0, end-1) {
		want := plainClock(spans, i)
		if c, e := Lookup(l, n, i); c != want || e != api.OK {
			t.Fatalf("%s at %d: %v, %v, want %v", n, i, c, e, want)
		}
	}
	for _, i := range some(instants, first)[:1] {
		want, _ := zones.At(s, n, i)
		if c, _ := Lookup(l, n, i); c != want {
			t.Fatalf("%s at %d: %v, want %v", n, i, c, want)
		}
	}
	for _, x := range append(some(shown, first), -1<<40, 0, 1<<40) {
		want, jump := plainShown(spans, x)
		if at, j, e := Local(l, n, x); !slices.Equal(at, want) || j != jump || e != api.OK {
			t.Fatalf("%s shows %d: %v, %d, %v, want %v, %d", n, x, at, j, e, want, jump)
		}
	}
}

// P6.1: the example of the whole, in all ways.
func TestTown(t *testing.T) {
	winter, summer := api.Clock{Offset: 3600, Name: "CET"}, api.Clock{Offset: 7200, Saving: true, Name: "CEST"}
	for ways := range allWays + 1 {
		l := compiled(t, town, ways)
		if namesOf(l) != "Town" {
			t.Fatalf("ways %d: %s", ways, namesOf(l))
		}
		for _, c := range []struct {
			at   int
			want api.Clock
		}{{begin, winter}, {0, winter}, {954032399, winter}, {954032400, summer}, {972781199, summer}, {972781200, winter}, {end - 1, winter}} {
			if got, e := Lookup(l, "Town", c.at); got != c.want || e != api.OK {
				t.Errorf("ways %d at %d: %v, %v", ways, c.at, got, e)
			}
		}
		for _, c := range []struct {
			shown int
			want  []int
			jump  int
		}{
			{3600, []int{0}, 0},
			{954035999, []int{954032399}, 0},
			{954036000, nil, 954032400},
			{954039599, nil, 954032400},
			{954039600, []int{954032400}, 0},
			{972784799, []int{972777599}, 0},
			{972784800, []int{972777600, 972781200}, 0},
			{972788399, []int{972781199, 972784799}, 0},
			{972788400, []int{972784800}, 0},
		} {
			if at, jump, e := Local(l, "Town", c.shown); !slices.Equal(at, c.want) || jump != c.jump || e != api.OK {
				t.Errorf("ways %d shows %d: %v, %d, %v", ways, c.shown, at, jump, e)
			}
		}
	}
}

// P6.1: all names, those of zones and of links, wherever they stand; each of its own.
func TestNames(t *testing.T) {
	for _, c := range []struct{ s, want string }{
		{"", ""},
		{"# nothing\n\n", ""},
		{"Rule A 1900 max - Jan 1 0 0 -", ""},
		{"Zone B 0 - X\nZone A 0 - X", "A B"},
		{"Link L2 L3\nLink Z L1\nZone Z 1 - Z\nLink L1 L2\nZone A 2 - A\nLink A b/C_1+-", "A L1 L2 L3 Z b/C_1+-"},
	} {
		if l := compiled(t, c.s, allWays); namesOf(l) != c.want {
			t.Errorf("%s: %s", c.s, namesOf(l))
		}
	}
	l := compiled(t, "Link B C\nZone A 1 - X\nLink A B\nZone D 2 - Y\nLink D E", 0)
	for _, c := range []struct {
		names string
		want  api.Clock
	}{{"A B C", api.Clock{Offset: 3600, Name: "X"}}, {"D E", api.Clock{Offset: 7200, Name: "Y"}}} {
		for _, n := range strings.Fields(c.names) {
			if got, e := Lookup(l, n, 0); got != c.want || e != api.OK {
				t.Errorf("%s: %v, %v", n, got, e)
			}
		}
	}
}

// P6.1: links in a row, so many as may be.
func TestLinksInARow(t *testing.T) {
	s := "Zone L0 5 - X\n"
	for i := range api.MaxLinks {
		s += fmt.Sprintf("Link L%d L%d\n", i, i+1)
	}
	l := compiled(t, s, allWays)
	for i := range api.MaxLinks + 1 {
		if c, e := Lookup(l, fmt.Sprint("L", i), 7); c.Offset != 5*3600 || e != api.OK {
			t.Errorf("L%d: %v, %v", i, c, e)
		}
	}
	holdRefused(t, s+fmt.Sprintf("Link L%d More\n", api.MaxLinks), allWays, 0, api.ErrLoop)
}

// P6.1: the programs may be run; the forward ones tell a clock, and nothing else, the inverse ones no clock.
func TestProgramsMayBeRun(t *testing.T) {
	for ways := range allWays + 1 {
		for _, f := range compiled(t, town+"\nLink Town City\nZone Other -1 1 A/B", ways) {
			for _, p := range []api.Program{f.Forward, f.Inverse} {
				if _, _, e := code.Verify(p); e != api.OK {
					t.Errorf("%s: %v", f.Name, e)
				}
			}
			for _, n := range []int{begin, 0, 954032400, 954036000, 972788000, end - 1} {
				a, _, _ := code.Run(f.Forward, n)
				b, _, _ := code.Run(f.Inverse, n)
				if len(a.Offsets) > 0 || a.Jump != 0 || a.Clock.Name == "" || b.Clock != (api.Clock{}) {
					t.Errorf("%s: %v, %v", f.Name, a, b)
				}
			}
		}
	}
}

// source that looks drawn: with rules that turn often and seldom, short and long eras, links in all places, and now and then something wrong.
func (d *die) source() string {
	num := func(low, many int) string { return fmt.Sprint(low + d.below(many)) }
	month := func() string { return d.pick("Jan", "Feb", "May", "Oct", "Dec") }
	day := func() string { return d.pick("1", "2", "28", "lastSun", "Mon>=1", "Sun>=8", "Fri<=20") }
	at := func() string { return d.pick("0", "0u", "1:00", "2:00s", "1:00u", "23:30:15", "24:00w", "167:00") }
	save := func() string { return d.pick("0", "0", "1:00", "0:30", "-1:00", "-2:00", "0:00:01") }
	var l []string
	for range d.below(6) {
		years := num(1900, 200) + " " + d.pick("only", "only", "max", "2099")
		l = append(l, "Rule "+d.pick("A", "B")+" "+years+" - "+month()+" "+day()+" "+at()+" "+save()+" "+d.pick("S", "-", "DD"))
	}
	l = append(l, "Rule A 1970 1990 - Apr lastSun 2:00 1:00 S", "Rule B 1990 only - May 1 0 0:20 -")
	for _, n := range d.names("X", "Y", "Z") {
		s := "Zone " + n + " "
		for y := 1900 + d.below(150); y < 2090 && d.below(3) > 0; y += d.below(30) {
			s += d.pick("0", "1:00", "-4:30", "24:00", "-24:00") + " " + d.pick("-", "A", "B", "0:45") + " " + d.pick("LMT", "X%sT", "P/Q") + " " + fmt.Sprint(y) + " " + month() + " " + day() + " " + at() + "\n"
		}
		l = append(l, s+d.pick("0", "2:00", "-8:00")+" "+d.pick("-", "A", "B")+" "+d.pick("FIN", "Y%s", "U/V"))
	}
	for _, n := range d.names("L", "M", "N") {
		l = append(l, "Link "+d.pick("X", "X", "Y", "Z", "L", "M")+" "+n)
	}
	if d.below(8) == 0 {
		l = append(l, d.pick("what", "Zone X 0 - X", "Zone Q 0 C X", "Link X X", "Link X Q R", "Rule A 1899 only - Jan 1 0 0 -"))
	}
	for range 3 {
		i, j := d.below(len(l)), d.below(len(l))
		l[i], l[j] = l[j], l[i]
	}
	return strings.Join(l, "\n")
}

// names: some of them.
func (d *die) names(l ...string) []string {
	return l[:d.below(len(l)+1)]
}

// plainRefused: the line and the error that a source must be refused with, step by step as P6.1 says it; the names of one that must not be, in their order.
func plainRefused(s string, ways int) ([]string, int, api.Errno) {
	if !slices.Contains([]int{0, 1, 2, 3, 4, 5, 6, 7}, ways) {
		return nil, 0, api.ErrRange
	}
	read, line, e := source.Read(s)
	if e != api.OK {
		return nil, line, e
	}
	if e := zones.Check(read); e != api.OK {
		return nil, 0, e
	}
	var names []string
	for _, z := range read.Zones {
		names = append(names, z.Name)
	}
	for _, x := range read.Links {
		names = append(names, x.Name)
	}
	for _, n := range names {
		l, e := zones.Spans(read, n)
		if e != api.OK || mostInstants(l) > api.MaxList {
			return nil, 0, api.ErrSize
		}
	}
	return inOrder(names), 0, api.OK
}

// P6.1, P6.2, P6.3: drawn sources, in all ways, held against the plainest reading of the chapters.
func TestDrawnSources(t *testing.T) {
	d := die(6)
	seen := map[api.Errno]int{}
	for range 400 {
		s := d.source()
		names, line, e := plainRefused(s, 0)
		seen[e]++
		for ways := range allWays + 1 {
			l, i, f := Compile(s, ways)
			if i != line || f != e || !slices.Equal(strings.Fields(namesOf(l)), names) {
				t.Fatalf("%s\nways %d: %s, line %d, %v, want %v, line %d, %v", s, ways, namesOf(l), i, f, names, line, e)
			}
			for _, n := range names {
				holdName(t, l, readOf(t, s), n, ways)
			}
		}
	}
	if seen[api.OK] < 100 || len(seen) < 5 {
		t.Errorf("they are not mixed: %v", seen)
	}
}

// holdRefused: nothing but the line and the error is answered.
func holdRefused(t *testing.T, s string, ways, line int, want api.Errno) {
	t.Helper()
	if l, i, e := Compile(s, ways); len(l) != 0 || i != line || e != want {
		t.Errorf("%.300s\nways %d: %d programs, line %d, %v, want line %d, %v", s, ways, len(l), i, e, line, want)
	}
}

// fault of a source: lines that have it, and with it the line (as counted from these on; 0: none) and the error.
type fault struct {
	lines string
	line  int
	e     api.Errno
}

// readFaults: each by itself, behind lines of which nothing is left open.
func readFaults() []fault {
	long := strings.Repeat("w", api.MaxWord+1)
	return []fault{
		{"#" + strings.Repeat("x", api.MaxSource), 0, api.ErrSize},
		{strings.Repeat("\n", api.MaxLines), 0, api.ErrSize},
		{"\n" + long, 2, api.ErrSize},
		{"what", 1, api.ErrForm},
		{"Zone F 0 -", 1, api.ErrForm},
		{"\n\nZone F 0 - X 1899", 3, api.ErrRange},
		{"Rule F 2000 1999 - Jan 1 0 0 -", 1, api.ErrOrder},
		{"Zone F 0 - X 2000", 1, api.ErrShort},
		{"Zone F 0 - X 2000\n\n", 3, api.ErrShort},
		{"Zone F" + strings.Repeat(" 0 - X 2000\n", api.MaxEras+1) + "0 - X", 21, api.ErrSize},
	}
}

// checkFaults: of lines that are in form.
func checkFaults() []fault {
	return []fault{
		{"Zone C 0 Nought X\n", 0, api.ErrNone},
		{"Zone C 0 - X 2001 Feb 29\n0 - X\n", 0, api.ErrRange},
		{"Zone C 0 - X 2001\n0 - X 2001\n0 - X\n", 0, api.ErrOrder},
		{"Zone C 0 - X\nZone C 1 - X\n", 0, api.ErrTwice},
		{"Zone C 0 - X\nLink C C\n", 0, api.ErrTwice},
		{"Zone C 0 - X\nLink C D\nLink C D\n", 0, api.ErrTwice},
		{"Link Nought C\n", 0, api.ErrNone},
		{"Link C C\n", 0, api.ErrLoop},
		{"Link C D\nLink D C\n", 0, api.ErrLoop},
	}
}

// sizeFaults: of sources that may be.
func sizeFaults() []fault {
	return []fault{
		{letters(api.MaxSpans + 1), 0, api.ErrSize},
		{letters(api.MaxSpans+1) + "Link Z Y\n", 0, api.ErrSize},
		{falling(api.MaxList + 1), 0, api.ErrSize},
		{falling(api.MaxList+1) + "Link F G\n", 0, api.ErrSize},
	}
}

// P6.1: what is refused, and what is named first goes first, wherever it stands.
func TestRefused(t *testing.T) {
	wrongWays := []int{math.MinInt, -8, -1, allWays + 1, 16, math.MaxInt}
	later := func(f fault) []string { return []string{f.lines + town, town + "\n" + f.lines} }
	var behind []string // what is refused less early
	for _, f := range sizeFaults() {
		for _, s := range later(f) {
			holdRefused(t, s, 5, f.line, f.e)
			behind = append(behind, s+"\n")
		}
	}
	for _, f := range checkFaults() {
		for _, s := range later(f) {
			holdRefused(t, s, 5, f.line, f.e)
		}
		for _, s := range behind {
			holdRefused(t, f.lines+s, 5, f.line, f.e)
			holdRefused(t, s+f.lines, 5, f.line, f.e)
		}
	}
	for _, f := range checkFaults() {
		behind = append(behind, f.lines, town+"\n"+f.lines)
	}
	behind = append(behind, town+"\n", "")
	for _, f := range readFaults() {
		for _, s := range behind {
			line := f.line
			if line > 0 {
				line += strings.Count(s, "\n")
			}
			holdRefused(t, s+f.lines, 5, line, f.e)
			for _, ways := range wrongWays {
				holdRefused(t, s+f.lines, ways, 0, api.ErrRange)
			}
		}
	}
	for _, s := range behind {
		for _, ways := range wrongWays {
			holdRefused(t, s, ways, 0, api.ErrRange)
		}
	}
}

// P6.1: a line that is wrong is told ahead of what is wrong in lines behind it, and ahead of what hangs on several lines.
func TestTheFirstWrongLine(t *testing.T) {
	holdRefused(t, "Zone A 0 - X\n\nRule R 2000 1999 - Jan 1 0 0 -\nwhat\nLink No B", 0, 3, api.ErrOrder)
	holdRefused(t, "Link No B\nwhat", 0, 2, api.ErrForm)
	holdRefused(t, "Zone A 0 - X 2000 # and no more\n\n# behind it", 0, 3, api.ErrShort)
}

// letters: a zone Z with so many spans (from 996 on), all with one offset.
func letters(many int) string {
	s := ""
	for i, m := range []string{"Jan", "Mar", "May", "Jul", "Sep"} {
		last := 2099
		if i >= many-995 {
			last = 2098
		}
		s += fmt.Sprintf("Rule Five 1900 %d - %s 1 0u 0 %c\n", last, m, 'A'+i)
	}
	for i := api.MaxSpans; i < many; i++ {
		s += fmt.Sprintf("Rule Five %d only - Nov 1 0u 0 F\n", 1950+i-api.MaxSpans)
	}
	return s + "Zone Z 0 Five X%s\n"
}

// falling: a zone F that shows one hour so many times (up to 20), since its clock is put back hour by hour.
func falling(many int) string {
	s := ""
	for i := range many {
		s += fmt.Sprintf("Rule Falls 2000 only - Jun 1 %d:00u %d:00 -\n", 1+i, many-1-i)
	}
	return s + "Zone F 0 Falls X\n"
}

// P6.1: MaxSpans spans may be, one more not.
func TestHowManySpans(t *testing.T) {
	for many := api.MaxSpans - 4; many <= api.MaxSpans; many++ {
		s := readOf(t, letters(many))
		if n := len(spansOf(t, s, "Z")); n != many {
			t.Fatalf("%d spans, not %d", n, many)
		}
		holdName(t, compiled(t, letters(many), allWays), s, "Z", many)
	}
	for ways := range allWays + 1 {
		if l := compiled(t, letters(api.MaxSpans), ways); len(l) != 1 {
			t.Errorf("ways %d: %d programs", ways, len(l))
		}
		holdRefused(t, letters(api.MaxSpans+1), ways, 0, api.ErrSize)
		holdRefused(t, letters(api.MaxSpans+30), ways, 0, api.ErrSize)
	}
}

// P6.1: MaxList offsets may be, one more not.
func TestHowManyOffsets(t *testing.T) {
	const shown = 959817600 + (api.MaxList+1)*3600 // June 2000
	for ways := range allWays + 1 {
		s := falling(api.MaxList)
		l := compiled(t, s, ways)
		at, jump, e := Local(l, "F", shown-3600)
		if len(at) != api.MaxList || !slices.IsSorted(at) || jump != 0 || e != api.OK {
			t.Errorf("ways %d: %v, %d, %v", ways, at, jump, e)
		}
		holdName(t, l, readOf(t, s), "F", 0)
		holdRefused(t, falling(api.MaxList+1), ways, 0, api.ErrSize)
		holdRefused(t, falling(20), ways, 0, api.ErrSize)
	}
	if n := mostInstants(spansOf(t, readOf(t, falling(api.MaxList+1)), "F")); n != api.MaxList+1 {
		t.Errorf("%d offsets", n)
	}
}

// saving: a zone Z that saves an hour so often a year, in 200 years; with 20 eras, in which the offsets are others.
func saving(often int) string {
	s := ""
	for i := range often {
		s += fmt.Sprintf("Rule Saves 1900 max - %s 10 0u 0 -\nRule Saves 1900 max - %s 20 0u 1:00 S\n", months[i], months[i])
	}
	s += "Zone Z "
	for i := range api.MaxEras - 1 {
		s += fmt.Sprintf("%d:%02d Saves X%%s %d Jan 10 0u\n", i%7, i, 1910+10*i)
	}
	return s + "0:00:01 Saves Y\n"
}

var months = []string{"Jan", "Mar", "Apr", "May", "Jul", "Aug", "Sep", "Oct", "Nov", "Dec"}

// P6.1: of 400 spans nothing is refused, though nearly each one makes a gap, or shows again what the one ahead did.
func TestFourHundredSpans(t *testing.T) {
	s := readOf(t, saving(1))
	if n := len(spansOf(t, s, "Z")); n != 400 {
		t.Fatalf("%d spans", n)
	}
	for ways := range allWays + 1 {
		holdName(t, compiled(t, saving(1), ways), s, "Z", ways)
	}
}

// P6.1: of more spans ErrSize may be answered, but nothing else that is wrong; and what is answered is the same in all ways.
func TestMoreThanFourHundredSpans(t *testing.T) {
	one, five := "Rule Saves 1950 only - Jun 1 0u 2:00 -\n", "Rule Saves 1900 max - Jun 1 0u 0:30 -\n"
	for _, text := range []string{one + saving(1), saving(2), five + saving(2)} {
		s := readOf(t, text)
		if n := len(spansOf(t, s, "Z")); n <= 400 || n > api.MaxSpans {
			t.Fatalf("%d spans", n)
		}
		first, _, wrong := Compile(text, 0)
		for ways := range allWays + 1 {
			l, line, e := Compile(text, ways)
			if len(l) != len(first) || line != 0 || e != wrong || e != api.OK && e != api.ErrSize {
				t.Errorf("ways %d: %d programs, line %d, %v", ways, len(l), line, e)
			}
			if e == api.OK {
				holdName(t, l, s, "Z", ways)
			}
		}
	}
}

// P6.1: the greatest sources that may be.
func TestTheGreatestSources(t *testing.T) {
	var l []string
	for i := range api.MaxLines {
		l = append(l, fmt.Sprintf("Zone Z%d 1:00 1:00 A/B", i))
	}
	s := strings.Join(l, "\n")
	s += " #" + strings.Repeat("x", api.MaxSource-len(s)-2)
	if n := len(compiled(t, s, allWays)); n != api.MaxLines {
		t.Errorf("%d names", n)
	}
	holdRefused(t, s+"x", allWays, 0, api.ErrSize)
	holdRefused(t, strings.Join(l, "\n")+"\n", allWays, 0, api.ErrSize)
}

// Every call of whatever text ends, and answers the same each time.
func TestTextsOfWhateverMayCome(t *testing.T) {
	d := die(9)
	for range 2000 {
		b := []byte(d.pick("", town, "Zone A 0 - X\nLink A B", "Rule A 1900 max - Jan 1 0 0 -\nZone A 0 A X"))
		for range d.below(4) {
			i := d.below(len(b) + 1)
			more := d.pick("\n", " ", "0", "-", "Zone ", "Link ", "A", "\x00", "\xff", "%s", "/", "2000")
			b = slices.Insert(b, i, []byte(more)...)
		}
		ways := d.below(12) - 2
		l, line, e := Compile(string(b), ways)
		m, again, f := Compile(string(b), ways)
		if !reflect.DeepEqual(l, m) || line != again || e != f {
			t.Fatalf("%q: line %d, %v, then line %d, %v", b, line, e, again, f)
		}
		if _, i, g := plainRefused(string(b), ways); i != line || g != e {
			t.Fatalf("%q: line %d, %v, want line %d, %v", b, line, e, i, g)
		}
	}
}
