package code

import (
	"fmt"
	"math"
	"regexp"
	"slices"
	"strings"
	"testing"

	"sundial/api"
)

// P5.7, P5.8: all operators, with the least and the greatest number.
func TestText(t *testing.T) {
	for _, c := range []struct{ code, want string }{
		{"arg", "arg\n"}, {"less", "less\n"},
		{"push 0", "push 0\n"}, {"skip 10", "skip 10\n"}, {"go 7999", "go 7999\n"}, {"tell 8000", "tell 8000\n"},
		{"push 8000; skip 0; go 1; tell 20", "push 8000\nskip 0\ngo 1\ntell 20\n"},
		{"arg; push 1; less; skip 2; arg", "arg\npush 1\nless\nskip 2\narg\n"},
	} {
		s, e := Text(instrs(c.code))
		if s != c.want || e != api.OK {
			t.Errorf("%s: %q, %v", c.code, s, e)
		}
		l, line, e := Parse(c.want)
		if !slices.Equal(l, instrs(c.code)) || line != 0 || e != api.OK {
			t.Errorf("%q: %v, %d, %v", c.want, l, line, e)
		}
	}
	if s, e := Text(nil); s != "" || e != api.OK {
		t.Errorf("no code: %q, %v", s, e)
	}
	if l, line, e := Parse(""); len(l) != 0 || line != 0 || e != api.OK {
		t.Errorf("no text: %v, %d, %v", l, line, e)
	}
}

// P5.7: line by line, and in a line first the Op.
func TestTextRefuses(t *testing.T) {
	for _, c := range []struct {
		l    []api.Instr
		want api.Errno
	}{
		{[]api.Instr{{}}, api.ErrKind}, {[]api.Instr{{Op: 7}}, api.ErrKind}, {[]api.Instr{{Op: -1}}, api.ErrKind},
		{[]api.Instr{{Op: math.MinInt}}, api.ErrKind}, {[]api.Instr{{Op: math.MaxInt}}, api.ErrKind},
		{[]api.Instr{{Op: 7, N: -1}}, api.ErrKind}, {[]api.Instr{{Op: 0, N: math.MaxInt}}, api.ErrKind},
		{[]api.Instr{{Op: api.Tell, N: -1}}, api.ErrRange}, {[]api.Instr{{Op: api.Tell, N: api.MaxCode + 1}}, api.ErrRange},
		{[]api.Instr{{Op: api.Push, N: math.MinInt}}, api.ErrRange}, {[]api.Instr{{Op: api.Skip, N: math.MaxInt}}, api.ErrRange},
		{[]api.Instr{{Op: api.Go, N: api.MaxCode + 1}}, api.ErrRange},
		{[]api.Instr{{Op: api.Arg, N: 1}}, api.ErrRange}, {[]api.Instr{{Op: api.Less, N: 1}}, api.ErrRange},
		{[]api.Instr{{Op: api.Arg, N: -1}}, api.ErrRange}, {[]api.Instr{{Op: api.Less, N: math.MinInt}}, api.ErrRange},
		{[]api.Instr{{Op: api.Arg}, {Op: api.Arg, N: 1}, {Op: 7}}, api.ErrRange},
		{[]api.Instr{{Op: api.Arg}, {Op: 7}, {Op: api.Arg, N: 1}}, api.ErrKind},
	} {
		if s, e := Text(c.l); s != "" || e != c.want {
			t.Errorf("%v: %q, %v, want %v", c.l, s, e, c.want)
		}
	}
}

// P5.7, P5.8: as much code as may be, and a line more.
func TestHowManyLines(t *testing.T) {
	l := slices.Repeat(instrs("tell 8000"), api.MaxCode)
	s, e := Text(l)
	if s != strings.Repeat("tell 8000\n", api.MaxCode) || e != api.OK {
		t.Fatalf("%d bytes, %v", len(s), e)
	}
	if m, line, e := Parse(s); !slices.Equal(l, m) || line != 0 || e != api.OK {
		t.Errorf("%d lines, %d, %v", len(m), line, e)
	}
	for _, x := range []api.Instr{{Op: api.Arg}, {Op: 7}, {Op: api.Arg, N: -1}} {
		if s, e := Text(append(slices.Clone(l), x)); s != "" || e != api.ErrSize {
			t.Errorf("and %v: %d bytes, %v", x, len(s), e)
		}
	}
	if s, e := Text(make([]api.Instr, api.MaxCode+1)); s != "" || e != api.ErrSize {
		t.Errorf("%d bytes, %v", len(s), e)
	}
	for _, c := range []struct {
		more string
		want api.Errno
	}{{"arg\n", api.ErrSize}, {"what\n", api.ErrSize}, {"\n", api.ErrSize}, {"go\n", api.ErrSize}, {"arg\nwhat", api.ErrSize}, {"arg", api.ErrShort}, {"what", api.ErrShort}} {
		if m, line, e := Parse(s + c.more); len(m) != 0 || line != api.MaxCode+1 || e != c.want {
			t.Errorf("and %q: %d lines, %d, %v, want %v", c.more, len(m), line, e, c.want)
		}
	}
	if m, line, e := Parse("arg 1\n" + s + "arg\n"); len(m) != 0 || line != 1 || e != api.ErrForm {
		t.Errorf("a wrong line ahead: %d lines, %d, %v", len(m), line, e)
	}
}

// P5.8: more than MaxBytes is refused, whatever it is; so many are looked at.
func TestHowManyBytesOfText(t *testing.T) {
	for _, c := range []struct {
		s    string
		line int
		want api.Errno
	}{
		{strings.Repeat("x", api.MaxBytes), 1, api.ErrShort}, {strings.Repeat("x", api.MaxBytes+1), 0, api.ErrSize},
		{strings.Repeat("x", api.MaxBytes-1) + "\n", 1, api.ErrKind}, {strings.Repeat("x", api.MaxBytes) + "\n", 0, api.ErrSize},
		{"arg\npush " + strings.Repeat("0", api.MaxBytes-10) + "\n", 2, api.ErrForm},
		{"arg\npush " + strings.Repeat("9", api.MaxBytes-10) + "\n", 2, api.ErrForm},
		{strings.Repeat("arg\n", api.MaxBytes/4), api.MaxCode + 1, api.ErrSize}, {strings.Repeat("arg\n", api.MaxBytes/4) + "\n", 0, api.ErrSize},
	} {
		if l, line, e := Parse(c.s); len(l) != 0 || line != c.line || e != c.want {
			t.Errorf("%d bytes, %.9q: %d lines, %d, %v, want %d, %v", len(c.s), c.s, len(l), line, e, c.line, c.want)
		}
	}
}

// wrongLines, with their ends.
func wrongLines() map[string]api.Errno {
	l := map[string]api.Errno{}
	for _, s := range []string{
		"", " ", "what", "Arg", "ARG", "ar", "args", "arg\r", "\targ", " arg", " push 1", "push\t1", "push,1", "push1", "arg\x00", "tells 1", "what 1", "0", "pu sh 1", "less\t",
	} {
		l[s+"\n"] = api.ErrKind
	}
	for _, s := range []string{
		"arg ", "arg 0", "arg 1", "less 0", "less ", "arg x", "less less",
		"push", "skip", "go", "tell",
		"push ", "push  ", "push  1", "push 1 ", "push 1\t", "push \t1", "push 1\r", "push x", "push 1x", "push 0x1", "push 1 2", "push 1_0",
		"push -1", "push -0", "push +1", "push 00", "push 01", "push 1.0", "push 1e1", "push \x00", "push \u0661",
		"tell 8001", "go 80000", "skip 9223372036854775808", "tell 18446744073709551616", "push 99999999999999999999999",
	} {
		l[s+"\n"] = api.ErrForm
	}
	for _, s := range []string{"arg", "push 1", "push", "go ", "what", "x", " ", "arg 1", "push 01"} {
		l[s] = api.ErrShort
	}
	return l
}

// P5.8: what may be wrong in a line, first or behind others, and ahead of another one that is wrong.
func TestParseRefuses(t *testing.T) {
	for s, want := range wrongLines() {
		for ahead, line := range map[string]int{"": 1, "arg\n": 2, "push 8000\nless\ntell 0\n": 4} {
			if l, n, e := Parse(ahead + s); len(l) != 0 || n != line || e != want {
				t.Errorf("%q: %v, %d, %v, want %d, %v", ahead+s, l, n, e, line, want)
			}
		}
		if want == api.ErrShort {
			continue
		}
		for behind := range wrongLines() {
			if l, n, e := Parse("arg\n" + s + behind); len(l) != 0 || n != 2 || e != want {
				t.Errorf("%q: %v, %d, %v, want 2, %v", "arg\n"+s+behind, l, n, e, want)
			}
		}
	}
}

// P5.8: which lines are taken, held against a regular expression.
func TestLinesThatAreTaken(t *testing.T) {
	form := regexp.MustCompile(`^((arg|less)|(push|skip|go|tell) (0|[1-9][0-9]{0,2}|[1-7][0-9]{3}|8000))$`)
	d := die(6)
	pieces := []string{"arg", "less", "push", "skip", "go", "tell", " ", " ", "0", "1", "8", "00", "000", "9", "7", "-", "+", "\t", "x"}
	taken := 0
	for range 60000 {
		s := ""
		for range d.below(6) {
			s += pieces[d.below(len(pieces))]
		}
		l, line, e := Parse(s + "\n")
		if form.MatchString(s) != (e == api.OK) || (line == 0) != (e == api.OK) {
			t.Fatalf("%q: %v, %d, %v", s, l, line, e)
		}
		if e != api.OK {
			continue
		}
		taken++
		if text, e := Text(l); text != s+"\n" || e != api.OK {
			t.Fatalf("%q: %v, then %q, %v", s, l, text, e)
		}
	}
	if taken < 1000 {
		t.Errorf("only %d were taken", taken)
	}
}

// P5.7, P5.8: each number that may be.
func TestAllNumbersInText(t *testing.T) {
	for n := range api.MaxCode + 1 {
		l := []api.Instr{{Op: api.Push + n%2*2, N: n}}
		s, e := Text(l)
		if want := fmt.Sprintln([]string{"push", "skip"}[n%2], n); s != want || e != api.OK {
			t.Fatalf("%v: %q, %v", l, s, e)
		}
		if m, _, e := Parse(s); !slices.Equal(l, m) || e != api.OK {
			t.Fatalf("%q: %v, %v", s, m, e)
		}
	}
}
