package tzc

import (
	"fmt"
	"slices"
	"strings"
	"testing"

	"sundial/api"
	"sundial/code"
)

// ahead: does a text stand ahead of another one, byte by byte?
func ahead(a, b string) bool {
	for i := 0; i < len(a) && i < len(b); i++ {
		if a[i] != b[i] {
			return a[i] < b[i]
		}
	}
	return len(a) < len(b)
}

// inOrder: the same names, each one put ahead of those that it stands ahead of.
func inOrder(l []string) []string {
	var out []string
	for _, n := range l {
		i := 0
		for i < len(out) && !ahead(n, out[i]) {
			i++
		}
		out = slices.Insert(out, i, n)
	}
	return out
}

// orderly: names in their order, as bytes are: + - / digits, capital letters, _ and small letters; what ends first is ahead.
func orderly() []string {
	return []string{
		"A", "A+", "A+-", "A+1", "A-", "A-+", "A-1", "A/", "A/B", "A/b", "A0", "A1", "A10", "A1a", "A2", "A9",
		"AB", "AZ", "A_", "A_/", "A_A", "A__", "Aa", "Ab", "Az",
		"B", "Etc/GMT", "Etc/GMT+1", "Etc/GMT+10", "Etc/GMT+2", "Etc/GMT-1", "Etc/GMT0",
		"Z", "Z+a", "Z-a", "Z/a", "Z0a", "ZAa", "Z_a", "Zaa",
		"a", "a+Z", "a-Z", "a/Z", "a9Z", "aZZ", "a_Z", "aa", "aaaaaaaaaaaaaaaaaaaa", "b",
		"z", "z/", "zzzzzzzzzzzzzzzzzzz", "zzzzzzzzzzzzzzzzzzzA", "zzzzzzzzzzzzzzzzzzza",
	}
}

// shuffled: the same names, in an order that looks drawn.
func (d *die) shuffled(l []string) []string {
	l = slices.Clone(l)
	for i := range l {
		j := i + d.below(len(l)-i)
		l[i], l[j] = l[j], l[i]
	}
	return l
}

// lines of a source of these names, in this order, some of them zones, with offsets that are all others, the rest links to one of these; and the offset of each name.
func (d *die) lines(names []string, zones int) (string, map[string]int) {
	offsets := map[string]int{}
	isZone := d.shuffled(names)[:zones]
	for i, n := range isZone {
		offsets[n] = 60 * (i + 1)
	}
	var l []string
	for _, n := range names {
		if slices.Contains(isZone, n) {
			l = append(l, fmt.Sprintf("Zone %s 0:%02d - X", n, offsets[n]/60))
			continue
		}
		of := isZone[d.below(zones)]
		offsets[n] = offsets[of]
		l = append(l, "Link "+of+" "+n)
	}
	return strings.Join(l, "\n"), offsets
}

// holdOrder: programs are there of just these names, in this order, and both of each are its own.
func holdOrder(t *testing.T, s string, ways int, names []string, offsets map[string]int) {
	t.Helper()
	l := compiled(t, s, ways)
	if namesOf(l) != strings.Join(names, " ") {
		t.Fatalf("%s\nways %d: %s, want %v", s, ways, namesOf(l), names)
	}
	for _, f := range l {
		want := offsets[f.Name]
		a, _, e := code.Run(f.Forward, 0)
		b, _, g := code.Run(f.Inverse, 0)
		if a.Clock.Offset != want || e != api.OK || !slices.Equal(b.Offsets, []int{want}) || g != api.OK {
			t.Errorf("%s\nways %d: %s: %v, %v, %v, %v, want %d", s, ways, f.Name, a, e, b, g, want)
		}
	}
}

// P6.1: programs are in the order of the names that they are of, of zones and of links together, wherever these stand in the source.
func TestOrderOfNames(t *testing.T) {
	names := orderly()
	back := slices.Clone(names)
	slices.Reverse(back)
	d := die(21)
	for ways := range allWays + 1 {
		for _, l := range [][]string{names, back, d.shuffled(names), d.shuffled(names)} {
			for _, zones := range []int{1, len(l) / 3, len(l) / 2, len(l)} {
				s, offsets := d.lines(l, zones)
				holdOrder(t, s, ways, names, offsets)
			}
		}
	}
}

// P6.1: of any two names, the one a zone and the other one a link, or both zones, each of them ahead in the source.
func TestOrderOfTwoNames(t *testing.T) {
	names := orderly()
	for i, a := range names {
		for _, b := range names[i+1:] {
			for _, s := range []string{
				"Zone %[1]s 0 - X\nZone %[2]s 0 - X", "Zone %[2]s 0 - X\nZone %[1]s 0 - X",
				"Zone %[1]s 0 - X\nLink %[1]s %[2]s", "Link %[1]s %[2]s\nZone %[1]s 0 - X",
				"Zone %[2]s 0 - X\nLink %[2]s %[1]s", "Link %[2]s %[1]s\nZone %[2]s 0 - X",
			} {
				s = fmt.Sprintf(s, a, b)
				if got := namesOf(compiled(t, s, allWays)); got != a+" "+b {
					t.Errorf("%s\n%s", s, got)
				}
			}
		}
	}
}

// P6.1: links of links, whose zones stand behind them, by their order too.
func TestOrderOfLinksInARow(t *testing.T) {
	for _, c := range []struct{ s, want string }{
		{"Zone One/A 0 - LMT\nZone Two 1:00 - LMT\nLink One/A Three\nLink Three Four\n", "Four One/A Three Two"},
		{"Zone One/A 5:00 - T\nZone o 0 - T\nLink One/A T\n", "One/A T o"},
		{"Link c b\nLink b B\nLink B A\nZone c 0 - X", "A B b c"},
		{"Link a_ a\nLink A_ a_\nZone A_ 0 - X\nLink a A", "A A_ a a_"},
	} {
		for ways := range allWays + 1 {
			if got := namesOf(compiled(t, c.s, ways)); got != c.want {
				t.Errorf("%s\nways %d: %s, want %s", c.s, ways, got, c.want)
			}
		}
	}
}
