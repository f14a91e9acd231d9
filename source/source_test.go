package source

import (
	"fmt"
	"reflect"
	"regexp"
	"strings"
	"testing"
	"unsafe"

	"sundial/api"
)

// sample lines whose words the tests change one by one.
const (
	aRule = "Rule EU 1980 1990 - Mar 5 1:00u 1:00 S"
	aZone = "Zone Town 1:00 EU CE%sT 2000 Feb 3 4:00"
	aLink = "Link Town City"
	anEra = "2:00 - X"
)

// with another word at a place of a line, from 0 on.
func with(line string, place int, word string) string {
	l := strings.Fields(line)
	l[place] = word
	return strings.Join(l, " ")
}

// empty: has an answer nothing in it?
func empty(x api.Source) bool {
	return len(x.Rules)+len(x.Zones)+len(x.Links) == 0
}

// refused: a text is refused, in a line, with an error, and nothing else is answered.
func refused(t *testing.T, s string, line int, e api.Errno) {
	t.Helper()
	if x, l, got := Read(s); got != e || l != line || !empty(x) {
		t.Errorf("Read(%.200q): %v, line %d, %v; want line %d, %v", s, x, l, got, line, e)
	}
}

// says: what a text that must be right says.
func says(t *testing.T, s string) api.Source {
	t.Helper()
	x, l, e := Read(s)
	if l != 0 || e != api.OK {
		t.Fatalf("Read(%.200q): line %d, %v", s, l, e)
	}
	return x
}

func same(t *testing.T, s string, got, want any) {
	t.Helper()
	if !reflect.DeepEqual(got, want) {
		t.Errorf("%q: %+v, want %+v", s, got, want)
	}
}

func theRule(t *testing.T, line string) api.Rule {
	t.Helper()
	x := says(t, line)
	if len(x.Rules) != 1 || len(x.Zones)+len(x.Links) != 0 {
		t.Fatalf("%q: %+v", line, x)
	}
	return x.Rules[0]
}

// theEra: the first one of a zone, of words behind its name; the zone is closed by another era, if that is asked for.
func theEra(t *testing.T, words string, closed bool) api.Era {
	t.Helper()
	s := "Zone Z " + words
	if closed {
		s += "\n" + anEra
	}
	x := says(t, s)
	if len(x.Zones) != 1 || len(x.Rules)+len(x.Links) != 0 {
		t.Fatalf("%q: %+v", s, x)
	}
	return x.Zones[0].Eras[0]
}

// P2.1

func TestLinesAndWords(t *testing.T) {
	want := says(t, aRule+"\n"+aZone+"\n"+anEra+"\n"+aLink)
	blanks := func(s, b string) string { return strings.ReplaceAll(s, " ", b) }
	for _, s := range []string{
		aRule + "\n" + aZone + "\n" + anEra + "\n" + aLink + "\n",
		"\n\n" + aRule + "\n \n" + aZone + "\n\t\n\n" + anEra + "\n#\n" + aLink + "\n \t \n",
		blanks(aRule, "\t") + "\n" + blanks(aZone, "  ") + "\n" + blanks(anEra, " \t ") + "\n" + blanks(aLink, "\t\t"),
		"  " + aRule + " \n\t" + aZone + "\t\n \t" + anEra + "\t \n\t\t" + aLink + "  ",
		aRule + "#\n" + aZone + "#a b\n" + anEra + " # a ## b\n" + aLink + "\t#" + strings.Repeat("x", 100),
		"#" + aLink + "\n" + aRule + "\n # " + aRule + "\n" + aZone + "\n# an era more\n\n" + anEra + "\n" + aLink + "#",
		aRule + "\n" + aZone + "\n" + anEra + "\nLink Town City#Land",
	} {
		same(t, s, says(t, s), want)
	}
}

func TestWhatStandsBehindTheSignIsNoWord(t *testing.T) {
	refused(t, "Link Town #City", 1, api.ErrForm)
	refused(t, "Li#nk Town City", 1, api.ErrForm)
	refused(t, aLink+"\nLink# Town City\n", 2, api.ErrForm)
	refused(t, "# one\n# two\nLink Town\n", 3, api.ErrForm) // it does not go on in the next line
}

func TestOnlyTwoBytesAreBlanks(t *testing.T) {
	for c := range 256 {
		s := "Link Town" + string([]byte{byte(c)}) + "City"
		_, l, e := Read(s)
		switch {
		case c == ' ' || c == '\t':
			if l != 0 || e != api.OK {
				t.Errorf("%q: line %d, %v", s, l, e)
			}
		case l != 1 || e != api.ErrForm:
			t.Errorf("%q: line %d, %v", s, l, e)
		}
	}
	refused(t, aLink+"\r\n"+aLink, 1, api.ErrForm)
	refused(t, aLink+"\u00a0", 1, api.ErrForm)
	refused(t, aLink+"\u2003", 1, api.ErrForm)
	refused(t, "\r", 1, api.ErrForm)
}

func TestLongWords(t *testing.T) {
	longest := strings.Repeat("n", api.MaxWord)
	x := says(t, "Link "+longest+" "+longest+"#"+longest)
	same(t, longest, x.Links, []api.Link{{Of: longest, Name: longest}})
	for _, s := range []string{
		longest + "n",
		"Link " + longest + "n B",
		"Link A " + longest + "n",
		"Link A B C D " + longest + "n",            // ahead of how many words there are
		"Nothing such " + longest + "n",            // and of how it begins
		"Rule 1 x x x x x x x " + longest + "n",    // and of what the words say
		"Link 1 2 " + strings.Repeat("\xff", 7000), // much longer
		"Link A " + strings.Repeat("\u00e4", 11),   // 22 bytes
	} {
		refused(t, s, 1, api.ErrSize)
		refused(t, "\n"+aLink+"\n"+s+"\nx", 3, api.ErrSize)
	}
	refused(t, "Link A "+strings.Repeat("\u00e4", 10), 1, api.ErrForm)
	refused(t, aZone+"\n"+longest+"n", 2, api.ErrSize) // where an era must be
	refused(t, "Link A\n"+longest+"n", 1, api.ErrForm) // a line ahead is told first
	refused(t, longest+"n\nLink A", 1, api.ErrSize)
}

// P2.2

var (
	nameForm    = regexp.MustCompile(`\A[a-zA-Z][a-zA-Z0-9_/+\-]{0,19}\z`)
	lettersForm = regexp.MustCompile(`\A[a-zA-Z]{0,6}\z`)
	formatForm  = regexp.MustCompile(`\A([a-zA-Z0-9+\-]+(/[a-zA-Z0-9+\-]+)?|[a-zA-Z0-9+\-]*%s[a-zA-Z0-9+\-]*)\z`)
)

func holdForms(t *testing.T, s string) {
	t.Helper()
	if got, want := Name(s), nameForm.MatchString(s); got != want {
		t.Errorf("Name(%q): %v", s, got)
	}
	if got, want := Letters(s), lettersForm.MatchString(s); got != want {
		t.Errorf("Letters(%q): %v", s, got)
	}
	if got, want := Format(s), len(s) <= 12 && formatForm.MatchString(s); got != want {
		t.Errorf("Format(%q): %v", s, got)
	}
}

// eachText of up to so many pieces.
func eachText(pieces []string, most int, f func(string)) {
	f("")
	if most == 0 {
		return
	}
	for _, p := range pieces {
		eachText(pieces, most-1, func(s string) { f(p + s) })
	}
}

func TestFormsOfShortTexts(t *testing.T) {
	eachText([]string{"a", "s", "Z", "0", "_", "/", "+", "-", "%", "%s", ".", "\xc3\xa4"}, 4, func(s string) { holdForms(t, s) })
}

func TestFormsOfEachByte(t *testing.T) {
	for c := range 256 {
		b := string([]byte{byte(c)})
		for _, s := range []string{b, "A" + b, b + "A", "A" + b + "A", "A/" + b, "%s" + b, b + "%s"} {
			holdForms(t, s)
		}
	}
}

func TestFormsOfLongTexts(t *testing.T) {
	for n := range 30 {
		a := strings.Repeat("a", n)
		for _, s := range []string{a, a + "0", "0" + a, a + "/b", "b/" + a, a + "%s", "%s" + a, a + "_", a + "%", a + "/", "/" + a, a + "/b/c", a + "%s%s", a + "/%s", "%s/" + a} {
			holdForms(t, s)
		}
	}
}

func TestForms(t *testing.T) {
	for s, want := range map[string]bool{"A": true, "One/A_b+c-9": true, strings.Repeat("A", 20): true, strings.Repeat("A", 21): false, "": false, "9A": false, "_A": false, "/A": false, "A B": false, "A%": false} {
		if Name(s) != want {
			t.Errorf("Name(%q)", s)
		}
	}
	for s, want := range map[string]bool{"": true, "S": true, "abcXYZ": true, "abcdefg": false, "-": false, "A1": false, "A B": false} {
		if Letters(s) != want {
			t.Errorf("Letters(%q)", s)
		}
	}
	for s, want := range map[string]bool{"%s": true, "CE%sT": true, "A/B": true, "+01": true, "-": true, strings.Repeat("A", 12): true, "ABCDE%sFGHIJ": true, "ABCDEF/GHIJK": true, strings.Repeat("A", 13): false, "": false, "/": false, "A/": false, "/A": false, "A/B/C": false, "%s%s": false, "A/%s": false, "%s/A": false, "%": false, "%S": false, "A_B": false} {
		if Format(s) != want {
			t.Errorf("Format(%q)", s)
		}
	}
}

// P2.3

// wrongNumbers: of each of them the form is wrong.
var wrongNumbers = []string{"x", "00", "01", "007", "0000000", "1000000", "1234567", "12a", "a12", "1.5", "+1", "1,000", "0x1", "1_0", "\u0661", "1e3", "\xff"}

func TestNumbersInForm(t *testing.T) {
	for _, s := range wrongNumbers {
		refused(t, with(aRule, 2, s), 1, api.ErrForm)
		refused(t, with(aRule, 3, s), 1, api.ErrForm)
		refused(t, with(aRule, 6, s), 1, api.ErrForm)
		refused(t, with(aRule, 6, "Sun>="+s), 1, api.ErrForm)
		refused(t, with(aRule, 7, s), 1, api.ErrForm)
		refused(t, with(aRule, 7, s+":00"), 1, api.ErrForm)
		refused(t, with(aRule, 8, s), 1, api.ErrForm)
		refused(t, with(aRule, 8, "-"+s), 1, api.ErrForm)
		refused(t, with(aRule, 8, s+":00:00"), 1, api.ErrForm)
		refused(t, with(aZone, 2, s), 1, api.ErrForm)
		refused(t, with(aZone, 5, s), 1, api.ErrForm)
	}
}

func TestYears(t *testing.T) {
	for y := range 12000 {
		s := with(with(aRule, 2, fmt.Sprint(y)), 3, "only")
		if y < 1900 || y > 2099 {
			refused(t, s, 1, api.ErrRange)
			continue
		}
		if r := theRule(t, s); r.From != y || r.To != y {
			t.Errorf("%q: %+v", s, r)
		}
		if x := theEra(t, "0 - X "+fmt.Sprint(y), true); x.Year != y {
			t.Errorf("%d: %+v", y, x)
		}
	}
	refused(t, with(aRule, 2, "999999"), 1, api.ErrRange)
	refused(t, with(aRule, 3, "999999"), 1, api.ErrRange)
	refused(t, with(aRule, 2, "-1980"), 1, api.ErrForm)
	for _, y := range []string{"0", "1899", "2100", "9999", "10000", "999999"} {
		refused(t, "Zone Z 0 - X "+y, 1, api.ErrRange)
	}
}

func TestMonthsAndWeekdays(t *testing.T) {
	for i, s := range strings.Fields("Jan Feb Mar Apr May Jun Jul Aug Sep Oct Nov Dec") {
		if r := theRule(t, with(aRule, 5, s)); r.At.Month != i+1 {
			t.Errorf("%s: %+v", s, r)
		}
		if x := theEra(t, "0 - X 2000 "+s, true); x.Until.Month != i+1 {
			t.Errorf("%s: %+v", s, x)
		}
	}
	for i, s := range strings.Fields("Sun Mon Tue Wed Thu Fri Sat") {
		if r := theRule(t, with(aRule, 6, "last"+s)); r.At.Day != (api.Day{Kind: api.Last, W: i}) {
			t.Errorf("%s: %+v", s, r)
		}
	}
	for _, s := range []string{"jan", "JAN", "Ja", "January", "1", "01", "Sun", "-", "Janx", "J"} {
		refused(t, with(aRule, 5, s), 1, api.ErrForm)
		refused(t, with(aZone, 6, s), 1, api.ErrForm)
	}
	for _, s := range []string{"", "sun", "SUN", "Su", "Sunday", "0", "1", "Jan", "-", "Sunx"} {
		refused(t, with(aRule, 6, "last"+s), 1, api.ErrForm)
		refused(t, with(aRule, 6, s+">=1"), 1, api.ErrForm)
		refused(t, with(aRule, 6, s+"<=1"), 1, api.ErrForm)
	}
}

// forms in which so many seconds may be told as hours.
func forms(n int) []string {
	h, m, s := n/3600, n/60%60, n%60
	l := []string{fmt.Sprintf("%d:%02d:%02d", h, m, s)}
	if s == 0 {
		l = append(l, fmt.Sprintf("%d:%02d", h, m))
	}
	if s == 0 && m == 0 {
		l = append(l, fmt.Sprint(h))
	}
	return l
}

// seconds up to a greatest one, and beyond: each minute, and many between them.
func seconds(most int) []int {
	l := []int{most - 1, most + 1, 999*3600 - 1, 999 * 3600, 999*3600 + 3599, 1000 * 3600, 999999 * 3600}
	for n := 0; n < most+7200; n++ {
		if n%60 == 0 || n%31 == 0 {
			l = append(l, n)
		}
	}
	return l
}

func TestOffsets(t *testing.T) {
	for _, n := range seconds(86400) {
		for _, f := range forms(n) {
			holdOffset(t, f, n)
			holdOffset(t, "-"+f, -n)
		}
	}
}

func holdOffset(t *testing.T, s string, n int) {
	t.Helper()
	if n < -86400 || n > 86400 {
		refused(t, with(aRule, 8, s), 1, api.ErrRange)
		refused(t, "Zone Z "+s+" - X", 1, api.ErrRange)
		refused(t, "Zone Z 0 "+s+" X", 1, api.ErrRange)
		return
	}
	if r := theRule(t, with(aRule, 8, s)); r.Save != n {
		t.Errorf("%q: %+v", s, r)
	}
	if x := theEra(t, s+" "+s+" X", false); x.Offset != n || x.Save != n || x.Rules != "" {
		t.Errorf("%q: %+v", s, x)
	}
}

// wrongHours: of each of them the form is wrong.
var wrongHours = []string{":", ":00", "1:", "1:0", "1:000", "1:60", "1:99", "1:0a", "1:a0", "1:-1", "1:+1", "1:00:", "1:00:0", "1:00:000", "1:00:60", "1:00:99", "1:00:00:", "1:00:00:00", "1::00", "1::", "::", "01:00", "00:00", "1.00", "1:00.5", "--1", "1-", "- 1"}

func TestHoursInForm(t *testing.T) {
	for _, s := range wrongHours {
		refused(t, with(aRule, 7, s), 1, api.ErrForm)
		refused(t, with(aRule, 8, s), 1, api.ErrForm)
		refused(t, with(aRule, 8, "-"+s), 1, api.ErrForm)
		refused(t, with(aZone, 2, s), 1, api.ErrForm)
		for _, c := range "wsu" {
			refused(t, with(aRule, 7, s+string(c)), 1, api.ErrForm)
		}
	}
	refused(t, with(aRule, 8, "-"), 1, api.ErrForm)
	refused(t, "Zone Z - - X", 1, api.ErrForm)
	refused(t, with(aRule, 7, "-"), 1, api.ErrForm)
	refused(t, with(aRule, 7, "-1:00"), 1, api.ErrForm)
	// What stands first in a word is refused first.
	refused(t, with(aRule, 8, "1000:99"), 1, api.ErrRange)
	refused(t, with(aRule, 8, "999:99"), 1, api.ErrForm)
	refused(t, with(aRule, 8, "999:59:60"), 1, api.ErrForm)
	refused(t, with(aRule, 8, "1000000:00"), 1, api.ErrForm)
}

func TestDayNumbers(t *testing.T) {
	for n := range 120 {
		for i, s := range []string{"%d", "Thu>=%d", "Thu<=%d"} {
			s = with(aRule, 6, fmt.Sprintf(s, n))
			if n < 1 || n > 31 {
				refused(t, s, 1, api.ErrRange)
				continue
			}
			want := []api.Day{{Kind: api.On, N: n}, {Kind: api.After, W: 4, N: n}, {Kind: api.Before, W: 4, N: n}}[i]
			same(t, s, theRule(t, s).At.Day, want)
		}
	}
	refused(t, with(aRule, 6, "999999"), 1, api.ErrRange)
}

// P2.4

func TestDays(t *testing.T) {
	for i, w := range strings.Fields("Sun Mon Tue Wed Thu Fri Sat") {
		for s, want := range map[string]api.Day{
			"last" + w: {Kind: api.Last, W: i},
			w + ">=1":  {Kind: api.After, W: i, N: 1},
			w + ">=31": {Kind: api.After, W: i, N: 31},
			w + "<=1":  {Kind: api.Before, W: i, N: 1},
			w + "<=31": {Kind: api.Before, W: i, N: 31},
			"31":       {Kind: api.On, N: 31},
		} {
			same(t, s, theRule(t, with(aRule, 6, s)).At.Day, want)
			same(t, s, theEra(t, "0 - X 2000 Feb "+s, true).Until.Day, want)
		}
	}
	for _, s := range []string{"last", "lastlastSun", "last1", "LastSun", "Last", "firstSun", "Sun", "Sun1", "Sun>1", "Sun<1", "Sun=1", "Sun==1", "Sun=>1", "Sun=<1", "Sun>=", "Sun<=", ">=1", "<=1", "Sun>=1>=1", "Sun>=<=1", "Sun<=>=1", "Sun>=-1", "1>=Sun", "5>=1", "lastSun>=1", "Sun>=Mon", "-1", "-", "1st"} {
		refused(t, with(aRule, 6, s), 1, api.ErrForm)
		refused(t, with(aZone, 7, s), 1, api.ErrForm)
	}
	refused(t, with(aRule, 6, "Son>=32"), 1, api.ErrForm) // the weekday is refused first
	refused(t, with(aRule, 6, "Sun<=0"), 1, api.ErrRange)
	refused(t, with(aZone, 7, "32"), 1, api.ErrRange)
	says(t, with(with(aRule, 5, "Feb"), 6, "31")) // whether a month has such a day is asked elsewhere
}

func TestTimes(t *testing.T) {
	for _, n := range seconds(7 * 86400) {
		for _, f := range forms(n) {
			holdTime(t, f, n)
		}
	}
}

func holdTime(t *testing.T, s string, n int) {
	t.Helper()
	for i, c := range []string{"w", "s", "u", ""} {
		rule, era := with(aRule, 7, s+c), "0 - X 2000 Feb 3 "+s+c
		if n > 7*86400 {
			refused(t, rule, 1, api.ErrRange)
			refused(t, "Zone Z "+era, 1, api.ErrRange)
			continue
		}
		clock := []int{api.Wall, api.Standard, api.World, api.Wall}[i]
		if at := theRule(t, rule).At; at.Time != n || at.Clock != clock {
			t.Errorf("%q: %+v", rule, at)
		}
		if at := theEra(t, era, true).Until; at.Time != n || at.Clock != clock {
			t.Errorf("%q: %+v", era, at)
		}
	}
}

func TestTimesBehindWhichAnotherByteStands(t *testing.T) {
	for c := range 256 {
		b := string([]byte{byte(c)})
		if strings.Contains("0123456789wsu# \t\n", b) {
			continue
		}
		for _, s := range []string{"1:00", "1", "200:00", "999999", "1000:00", "1w", "1:00:00s"} {
			refused(t, with(aRule, 7, s+b), 1, api.ErrForm)
			refused(t, with(aZone, 8, s+b), 1, api.ErrForm)
		}
		refused(t, with(aRule, 7, b), 1, api.ErrForm)
	}
	for _, s := range []string{"w", "s", "u", "ww", "1ws", "1:00uu", "w1", "1w:00", "1:00W", "1:00 u"} {
		refused(t, with(aRule, 7, s), 1, api.ErrForm)
	}
}

// P2.5

func TestRules(t *testing.T) {
	for s, want := range map[string]api.Rule{
		aRule:                               {Name: "EU", From: 1980, To: 1990, At: api.Moment{Month: 3, Day: api.Day{Kind: api.On, N: 5}, Time: 3600, Clock: api.World}, Save: 3600, Letters: "S"},
		"Rule R 1990 only - Jan 1 0 1:00 -": {Name: "R", From: 1990, To: 1990, At: api.Moment{Month: 1, Day: api.Day{Kind: api.On, N: 1}}, Save: 3600},
		"Rule a/b 1900 max - Dec Sat<=31 168:00:00s -24 ABCdef":    {Name: "a/b", From: 1900, To: 2099, At: api.Moment{Month: 12, Day: api.Day{Kind: api.Before, W: 6, N: 31}, Time: 604800, Clock: api.Standard}, Save: -86400, Letters: "ABCdef"},
		"Rule Rule 2099 2099 - Feb lastMon 0:00:01w -0:00:01 Rule": {Name: "Rule", From: 2099, To: 2099, At: api.Moment{Month: 2, Day: api.Day{Kind: api.Last, W: 1}, Time: 1}, Save: -1, Letters: "Rule"},
		"Rule R 1900 1900 - Jan Tue>=9 0 -0 -":                     {Name: "R", From: 1900, To: 1900, At: api.Moment{Month: 1, Day: api.Day{Kind: api.After, W: 2, N: 9}}},
	} {
		same(t, s, theRule(t, s), want)
	}
}

// wrongRules: at each place words that may not be there, and the errors.
var wrongRules = map[int]map[string]api.Errno{
	1: {"9A": api.ErrForm, "-": api.ErrForm, "A%": api.ErrForm, "_": api.ErrForm},
	2: {"1899": api.ErrRange, "2100": api.ErrRange, "max": api.ErrForm, "only": api.ErrForm, "-": api.ErrForm, "10000": api.ErrRange},
	3: {"1979": api.ErrOrder, "1900": api.ErrOrder, "1899": api.ErrRange, "2100": api.ErrRange, "Max": api.ErrForm, "onl": api.ErrForm, "onlyx": api.ErrForm, "-": api.ErrForm, "maximum": api.ErrForm},
	4: {"--": api.ErrForm, "x": api.ErrForm, "0": api.ErrForm, "+": api.ErrForm},
	5: {"Mai": api.ErrForm, "3": api.ErrForm},
	6: {"0": api.ErrRange, "32": api.ErrRange, "lastSo": api.ErrForm},
	7: {"168:00:01": api.ErrRange, "1x": api.ErrForm},
	8: {"24:00:01": api.ErrRange, "-24:00:01": api.ErrRange, "1:00s": api.ErrForm, "x": api.ErrForm},
	9: {"abcdefg": api.ErrForm, "S1": api.ErrForm, "--": api.ErrForm, "%s": api.ErrForm},
}

// holdWrong: of a line each wrong word is refused, and of two that are wrong the first one.
func holdWrong(t *testing.T, line string, wrong map[int]map[string]api.Errno) {
	t.Helper()
	for i, l := range wrong {
		for w, e := range l {
			refused(t, with(line, i, w), 1, e)
			refused(t, "\n"+aLink+"\n"+with(line, i, w)+"\nbehind", 3, e)
			for j, more := range wrong {
				for v := range more {
					if j > i {
						refused(t, with(with(line, i, w), j, v), 1, e)
					}
				}
			}
		}
	}
}

func TestWrongRules(t *testing.T) {
	holdWrong(t, aRule, wrongRules)
	for from := 1900; from <= 2099; from += 3 {
		for to := 1900; to <= 2099; to += 7 {
			s := with(with(aRule, 2, fmt.Sprint(from)), 3, fmt.Sprint(to))
			if to < from {
				refused(t, s, 1, api.ErrOrder)
			} else if r := theRule(t, s); r.From != from || r.To != to {
				t.Errorf("%q: %+v", s, r)
			}
		}
	}
}

// P2.6

func TestEras(t *testing.T) {
	first := api.Moment{Month: 1, Day: api.Day{Kind: api.On, N: 1}}
	for s, want := range map[string]api.Era{
		"0 - X":          {Format: "X"},
		"1 R X":          {Offset: 3600, Rules: "R", Format: "X"},
		"-0:30 1:00 A/B": {Offset: -1800, Save: 3600, Format: "A/B"},
		"0 -1 %s":        {Save: -3600, Format: "%s"},
		"24 0 -":         {Offset: 86400, Format: "-"},
		"-24 a-1 +1":     {Offset: -86400, Rules: "a-1", Format: "+1"},
		"0 Zone Rule":    {Rules: "Zone", Format: "Rule"},
	} {
		same(t, s, theEra(t, s, false), want)
		want.Ends, want.Year, want.Until = true, 2000, first
		same(t, s, theEra(t, s+" 2000", true), want)
	}
	for s, want := range map[string]api.Moment{
		"":                   first,
		" Jan":               first,
		" Dec":               {Month: 12, Day: api.Day{Kind: api.On, N: 1}},
		" Feb lastSun":       {Month: 2, Day: api.Day{Kind: api.Last}},
		" Feb Mon>=8":        {Month: 2, Day: api.Day{Kind: api.After, W: 1, N: 8}},
		" Jan 1 0":           first,
		" Jan 1 0w":          first,
		" May 9 2:00s":       {Month: 5, Day: api.Day{Kind: api.On, N: 9}, Time: 7200, Clock: api.Standard},
		" May Fri<=9 168u #": {Month: 5, Day: api.Day{Kind: api.Before, W: 5, N: 9}, Time: 604800, Clock: api.World},
	} {
		s = "0 - X 2099" + s
		same(t, s, theEra(t, s, true), api.Era{Format: "X", Ends: true, Year: 2099, Until: want})
	}
}

func TestZonesOfSeveralEras(t *testing.T) {
	s := "Zone A 0 - X\nZone B 1 R Y 1950\n\n2 - Z 1960 Mar # so\n#\n\t3 0:30 %s\nZone A 4 - V"
	first := api.Moment{Month: 1, Day: api.Day{Kind: api.On, N: 1}}
	march := api.Moment{Month: 3, Day: api.Day{Kind: api.On, N: 1}}
	same(t, s, says(t, s).Zones, []api.Zone{
		{Name: "A", Eras: []api.Era{{Format: "X"}}},
		{Name: "B", Eras: []api.Era{
			{Offset: 3600, Rules: "R", Format: "Y", Ends: true, Year: 1950, Until: first},
			{Offset: 7200, Format: "Z", Ends: true, Year: 1960, Until: march},
			{Offset: 10800, Save: 1800, Format: "%s"},
		}},
		{Name: "A", Eras: []api.Era{{Offset: 14400, Format: "V"}}},
	})
	// Behind an era that Ends a line is an era, however it begins; behind one that does not, it is none.
	for _, line := range []string{aRule, aZone, aLink, "Zone A 0 - X", "Link A B"} {
		refused(t, aZone+"\n\n"+line, 3, api.ErrForm)
	}
	refused(t, "Zone A 0 - X\n"+anEra, 2, api.ErrForm)
	refused(t, aZone+"\n"+anEra+"\n"+anEra, 3, api.ErrForm)
	refused(t, anEra, 1, api.ErrForm)
}

var wrongEras = map[int]map[string]api.Errno{
	0: {"x": api.ErrForm, "-": api.ErrForm, "24:00:01": api.ErrRange, "-25": api.ErrRange, "1:00s": api.ErrForm},
	1: {"25": api.ErrRange, "-25": api.ErrRange, "1x": api.ErrForm, "-x": api.ErrForm, "--": api.ErrForm, "_": api.ErrForm, "+1": api.ErrForm, "%s": api.ErrForm},
	2: {"/": api.ErrForm, "A/B/C": api.ErrForm, "abcdefghijklm": api.ErrForm, "%s%s": api.ErrForm, "_": api.ErrForm},
	3: {"1899": api.ErrRange, "2100": api.ErrRange, "max": api.ErrForm, "x": api.ErrForm},
	4: {"x": api.ErrForm, "1": api.ErrForm},
	5: {"0": api.ErrRange, "32": api.ErrRange, "x": api.ErrForm},
	6: {"169": api.ErrRange, "x": api.ErrForm},
}

func TestWrongZones(t *testing.T) {
	wrong := map[int]map[string]api.Errno{1: {"9": api.ErrForm, "-": api.ErrForm}}
	for i, l := range wrongEras {
		wrong[i+2] = l
	}
	holdWrong(t, aZone, wrong)
}

func TestWrongEras(t *testing.T) {
	era := strings.TrimPrefix(aZone, "Zone Town ")
	for i, l := range wrongEras {
		for w, e := range l {
			refused(t, aZone+"\n#\n"+with(era, i, w)+"\n"+anEra, 3, e)
			for j, more := range wrongEras {
				for v := range more {
					if j > i {
						refused(t, aZone+"\n"+with(with(era, i, w), j, v), 2, e)
					}
				}
			}
		}
	}
}

func TestLinks(t *testing.T) {
	s := "Link A B\nLink B/c A\nLink A A\nLink Link Zone"
	same(t, s, says(t, s).Links, []api.Link{{Of: "A", Name: "B"}, {Of: "B/c", Name: "A"}, {Of: "A", Name: "A"}, {Of: "Link", Name: "Zone"}})
	for _, s := range []string{"Link 1 B", "Link A 1", "Link - B", "Link A -", "Link A% B", "Link A B%"} {
		refused(t, s, 1, api.ErrForm)
	}
}

// P2.7

func TestReadNothing(t *testing.T) {
	for _, s := range []string{"", " ", "\t", "\n", "#", "# a\n", "\n\n \n#b\n\t# c"} {
		if x := says(t, s); !empty(x) {
			t.Errorf("%q: %+v", s, x)
		}
	}
}

func TestReadTheWhole(t *testing.T) {
	s := "Rule EU 1980 max - Mar lastSun 1:00u 1:00 S\nRule EU 1980 max - Oct lastSun 1:00u 0 -\nZone Town 1:00 EU CE%sT\nLink Town City\n"
	at := func(m int) api.Moment {
		return api.Moment{Month: m, Day: api.Day{Kind: api.Last}, Time: 3600, Clock: api.World}
	}
	same(t, s, says(t, s), api.Source{
		Rules: []api.Rule{{Name: "EU", From: 1980, To: 2099, At: at(3), Save: 3600, Letters: "S"}, {Name: "EU", From: 1980, To: 2099, At: at(10)}},
		Zones: []api.Zone{{Name: "Town", Eras: []api.Era{{Offset: 3600, Rules: "EU", Format: "CE%sT"}}}},
		Links: []api.Link{{Of: "Town", Name: "City"}},
	})
}

func TestReadInAnyOrder(t *testing.T) {
	s := aLink + "\n" + aRule + "\n" + "Zone A 0 - X\n" + with(aRule, 1, "B") + "\n" + with(aLink, 2, "C")
	x := says(t, s)
	if len(x.Rules) != 2 || x.Rules[0].Name != "EU" || x.Rules[1].Name != "B" || len(x.Zones) != 1 || len(x.Links) != 2 || x.Links[0].Name != "City" || x.Links[1].Name != "C" {
		t.Errorf("%+v", x)
	}
}

func TestSizeOfASource(t *testing.T) {
	full := aLink + "#" + strings.Repeat("x", api.MaxSource-len(aLink)-1)
	if x := says(t, full); len(full) != 8000 || len(x.Links) != 1 {
		t.Errorf("%d bytes: %+v", len(full), x)
	}
	refused(t, full+"x", 0, api.ErrSize)
	refused(t, full+"\n", 0, api.ErrSize)
	refused(t, strings.Repeat("x", 8001), 0, api.ErrSize)
	refused(t, strings.Repeat("x", 8000), 1, api.ErrSize)
	refused(t, strings.Repeat("x", 1<<20), 0, api.ErrSize)
	lines := strings.Repeat("Link A B\n", api.MaxLines-1) + "Link A B"
	if x := says(t, lines); len(x.Links) != 200 {
		t.Errorf("%d links", len(x.Links))
	}
	refused(t, lines+"\n", 0, api.ErrSize) // the line behind the last byte 10 is one more, though it is empty
	refused(t, strings.Repeat("\n", 200), 0, api.ErrSize)
	says(t, strings.Repeat("\n", 199))
	refused(t, "wrong\n"+lines, 0, api.ErrSize)
	refused(t, strings.Repeat("\n", 199)+"wrong", 200, api.ErrForm)
}

func TestHowManyWords(t *testing.T) {
	for _, c := range []struct {
		line        string
		least, most int
	}{{aRule, 10, 10}, {aZone, 5, 9}, {aLink, 3, 3}} {
		l := strings.Fields(c.line + " S S S")
		for n := 1; n <= len(l); n++ {
			s := strings.Join(l[:n], " ") + "\n" + anEra
			if n < c.least || n > c.most {
				refused(t, s, 1, api.ErrForm)
				refused(t, "\n"+s, 2, api.ErrForm)
			} else if _, line, _ := Read(s); line == 1 {
				t.Errorf("%q is refused in line 1", s)
			}
		}
	}
	l := strings.Fields("0 - X 2000 Jan 1 0 0 0")
	for n := 1; n <= len(l); n++ {
		s := aZone + "\n" + strings.Join(l[:n], " ")
		switch {
		case n < 3 || n > 7:
			refused(t, s, 2, api.ErrForm)
		case n == 3:
			says(t, s)
		default:
			refused(t, s, 2, api.ErrShort)
		}
	}
	// Ahead of what the words say: these would be out of range, or not in order.
	for _, s := range []string{"Rule A 1800", "Rule A 1990 1980 - Jan 1 0 0", "Rule A 1800 max - Jan 1 0 0 - -", "Zone A 25", "Zone A 25 - X 2000 Jan 1 0 0"} {
		refused(t, s, 1, api.ErrForm)
	}
	refused(t, aZone+"\n25 -", 2, api.ErrForm)
	refused(t, aZone+"\n25 - X 2000 Jan 1 0 0", 2, api.ErrForm)
}

func TestLinesThatBeginOtherwise(t *testing.T) {
	for _, s := range []string{"x", "rule EU 1980 1990 - Mar 5 1:00u 1:00 S", "Rules", "zone A 0 - X", "ZONE A 0 - X", "link A B", "Links A B", "R EU 1980 only - Mar 5 0 0 S", "0 - X", "Zone# A 0 - X", "-", "Li nk A B"} {
		refused(t, s, 1, api.ErrForm)
		refused(t, aRule+"\n\n"+s+"\n"+aRule, 3, api.ErrForm)
	}
}

// erasOf a zone, so many, of which the last one does not end.
func erasOf(n int) string {
	return "Zone Z " + strings.Repeat("0 - X 2000\n", n-1) + "0 - X"
}

func TestHowManyEras(t *testing.T) {
	if x := says(t, erasOf(api.MaxEras)); len(x.Zones[0].Eras) != 20 {
		t.Errorf("%d eras", len(x.Zones[0].Eras))
	}
	says(t, erasOf(20)+"\n"+erasOf(20))
	refused(t, erasOf(21), 21, api.ErrSize)
	refused(t, erasOf(30), 21, api.ErrSize)
	refused(t, erasOf(20)+"\n"+erasOf(21), 41, api.ErrSize)
	refused(t, erasOf(21)+" 2000", 21, api.ErrSize)
	// What the words say stands ahead of it.
	refused(t, strings.TrimSuffix(erasOf(21), "0 - X")+"25 - X", 21, api.ErrRange)
	refused(t, strings.TrimSuffix(erasOf(21), "0 - X")+"0 - /", 21, api.ErrForm)
	refused(t, strings.TrimSuffix(erasOf(21), "0 - X")+"0 -", 21, api.ErrForm)
}

func TestTheLastEraEnds(t *testing.T) {
	refused(t, aZone, 1, api.ErrShort)
	refused(t, aZone+"\n", 2, api.ErrShort)
	refused(t, aZone+"\n\n # so\n\t", 4, api.ErrShort)
	refused(t, aLink+"\n"+aZone+"\n0 - X 2001", 3, api.ErrShort)
	refused(t, erasOf(20)+" 2001\n\n", 22, api.ErrShort)
	refused(t, aZone+strings.Repeat("\n", 199), 200, api.ErrShort)
}

func TestTheFirstWrongLineIsTold(t *testing.T) {
	wrong := map[string]api.Errno{"x": api.ErrForm, with(aRule, 2, "1800"): api.ErrRange, with(aRule, 3, "1970"): api.ErrOrder, strings.Repeat("x", 21): api.ErrSize}
	for a, e := range wrong {
		for b := range wrong {
			refused(t, a+"\n"+b, 1, e)
			refused(t, aRule+"\n"+a+"\n"+b, 2, e)
			refused(t, a+"\n"+aZone, 1, e)
		}
	}
}

// What holds everywhere.

// drawn: numbers that look so, the same each time.
type drawn uint64

func (d *drawn) below(n int) int {
	*d = *d*6364136223846793005 + 1442695040888963407
	return int(uint64(*d>>33) % uint64(n))
}

func TestReadEndsWhateverItIsGiven(t *testing.T) {
	pieces := []string{"Rule ", "Zone ", "Link ", "\n", " ", "\t", "#", "-", ":", "1", "00", "2000", "max", "only", "last", "Sun", ">=", "<=", "Jan", "w", "s", "u", "A", "/", "%s", "%", "\x00", "\xff", "\u00e4", " - ", " 0 ", " X ", "\n" + aRule + "\n", "\n" + aZone + "\n", "\n" + anEra + "\n", "\n" + aLink + "\n"}
	d := drawn(1)
	for range 60000 {
		s := ""
		for range d.below(14) {
			s += pieces[d.below(len(pieces))]
		}
		x, l, e := Read(s)
		if e == api.OK && l != 0 || e != api.OK && (l < 1 || l > strings.Count(s, "\n")+1 || !empty(x)) {
			t.Fatalf("%q: %+v, line %d, %v", s, x, l, e)
		}
		again, m, f := Read(s)
		if !reflect.DeepEqual(again, x) || m != l || f != e {
			t.Fatalf("%q: two answers", s)
		}
	}
}

func TestReadAnswersNewMemory(t *testing.T) {
	s := strings.Clone(aRule + "\n" + erasOf(3) + "\n" + erasOf(3) + "\n" + aLink + "\n" + with(aZone, 1, "Ab") + "\n" + anEra)
	x, again := says(t, s), says(t, s)
	from := uintptr(unsafe.Pointer(unsafe.StringData(s)))
	for _, name := range []string{x.Rules[0].Name, x.Rules[0].Letters, x.Zones[0].Name, x.Zones[2].Eras[0].Format, x.Zones[2].Eras[0].Rules, x.Links[0].Of, x.Links[0].Name} {
		if p := uintptr(unsafe.Pointer(unsafe.StringData(name))); p >= from && p < from+uintptr(len(s)) {
			t.Errorf("%q is a piece of the argument", name)
		}
	}
	spoil := func(x *api.Source) {
		for i := range x.Zones {
			l := x.Zones[i].Eras[:cap(x.Zones[i].Eras)]
			for j := range l {
				l[j].Offset += 1 + i
			}
		}
		clear(x.Zones[len(x.Zones):cap(x.Zones)])
		clear(x.Rules[:cap(x.Rules)])
		clear(x.Links[:cap(x.Links)])
	}
	spoil(&x)
	for i, z := range x.Zones {
		for j, e := range z.Eras {
			if e.Offset != again.Zones[i].Eras[j].Offset+1+i {
				t.Errorf("era %d of zone %d lies where another one does", j, i)
			}
		}
	}
	same(t, s, again, says(t, s))
}
