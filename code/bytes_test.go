package code

import (
	"bytes"
	"math"
	"math/big"
	"slices"
	"strings"
	"testing"

	"sundial/api"
)

// plainNumber in bytes, reckoned with numbers that have no bounds.
func plainNumber(n int) []byte {
	x := new(big.Int).Mul(big.NewInt(2), big.NewInt(int64(n)))
	if n < 0 {
		x.Neg(x).Sub(x, big.NewInt(1))
	}
	var b []byte
	for rest := new(big.Int); ; b[len(b)-1] += 128 {
		x.DivMod(x, big.NewInt(128), rest)
		b = append(b, byte(rest.Int64()))
		if x.Sign() == 0 {
			return b
		}
	}
}

// join: texts and bytes as they are, numbers as numbers.
func join(parts ...any) []byte {
	var b []byte
	for _, x := range parts {
		switch x := x.(type) {
		case string:
			b = append(b, x...)
		case []byte:
			b = append(b, x...)
		case byte:
			b = append(b, x)
		case int:
			b = append(b, plainNumber(x)...)
		}
	}
	return b
}

// plainBytes: how the chapter says that a program is told, whether it may be run or not.
func plainBytes(p api.Program) []byte {
	var b []byte
	add := func(parts ...any) { b = append(b, join(parts...)...) }
	add("sd1", len(p.Code))
	for _, x := range p.Code {
		add(byte(x.Op))
		if x.Op != api.Arg && x.Op != api.Less {
			add(x.N)
		}
	}
	add(len(p.Pool))
	for _, n := range p.Pool {
		add(n)
	}
	add(len(p.Answers))
	for _, a := range p.Answers {
		saving := 0
		if a.Clock.Saving {
			saving = 1
		}
		add(a.Clock.Offset, saving, len(a.Clock.Name), a.Clock.Name, len(a.Offsets))
		for _, n := range a.Offsets {
			add(n)
		}
		add(a.Jump)
	}
	return b
}

// alike: are two programs the same? Lists without elements may be nil or not.
func alike(p, q api.Program) bool {
	return slices.Equal(p.Code, q.Code) && slices.Equal(p.Pool, q.Pool) && slices.EqualFunc(p.Answers, q.Answers, same)
}

// holdBytes: a program that may be run is told by its bytes, and they tell it.
func holdBytes(t *testing.T, p api.Program) []byte {
	t.Helper()
	b, e := Encode(p)
	if e != api.OK || !bytes.Equal(b, plainBytes(p)) {
		t.Fatalf("%v: %v, %v, want %v", p, b, e, plainBytes(p))
	}
	if q, e := Decode(b); e != api.OK || !alike(p, q) {
		t.Fatalf("%v: %v, %v", b, q, e)
	}
	return b
}

// undone: nothing is answered beside an error.
func undone(t *testing.T, b []byte) api.Errno {
	t.Helper()
	p, e := Decode(b)
	if e != api.OK && !alike(p, api.Program{}) {
		t.Errorf("%v: %v, with %v", b, p, e)
	}
	return e
}

// P5.5, P5.6: numbers in bytes, written out.
func TestNumbersInBytes(t *testing.T) {
	for _, c := range []struct {
		n    int
		want []byte
	}{
		{0, []byte{0}}, {-1, []byte{1}}, {1, []byte{2}}, {-2, []byte{3}},
		{63, []byte{126}}, {-64, []byte{127}}, {64, []byte{128, 1}}, {-65, []byte{129, 1}},
		{8191, []byte{254, 127}}, {-8192, []byte{255, 127}}, {8192, []byte{128, 128, 1}},
		{1<<62 - 1, []byte{254, 255, 255, 255, 255, 255, 255, 255, 127}},
		{-1 << 62, []byte{255, 255, 255, 255, 255, 255, 255, 255, 127}},
		{1 << 62, []byte{128, 128, 128, 128, 128, 128, 128, 128, 128, 1}},
		{math.MaxInt, []byte{254, 255, 255, 255, 255, 255, 255, 255, 255, 1}},
		{math.MinInt, []byte{255, 255, 255, 255, 255, 255, 255, 255, 255, 1}},
	} {
		want := join("sd1", 1, byte(api.Tell), 0, 1, c.want, 1, 0, 0, 0, 0, 0)
		p := api.Program{Code: instrs("tell 0"), Pool: []int{c.n}, Answers: []api.Answer{{}}}
		if b := holdBytes(t, p); !bytes.Equal(b, want) {
			t.Errorf("%d: %v, want %v", c.n, b, want)
		}
	}
}

// P5.5: a program in bytes, written out.
func TestEncode(t *testing.T) {
	p := sampleProgram()
	want := join("sd1", []byte{
		18, 1, 2, 2, 3, 4, 4, 5, 0, 6, 0, 2, 0, 4, 0, 6, 4,
		4, 10, 13,
		6, 120, 2, 2, 'A', 6, 6, 4, 2, 18,
		0, 0, 2, 'B', 6, 10, 12, 14, 0,
		0, 0, 0, 6, 2, 2, 2, 7,
	})
	if b := holdBytes(t, p); !bytes.Equal(b, want) {
		t.Errorf("%v, want %v", b, want)
	}
}

// P5.5, P5.6: the greatest program, and names with whatever bytes.
func TestBytesOfTheGreatestProgram(t *testing.T) {
	p := greatestProgram()
	if b := holdBytes(t, p); len(b) > api.MaxBytes {
		t.Errorf("%d bytes", len(b))
	}
	p.Answers[3].Clock.Name = "\x00\xff\n\x80sd1"
	holdBytes(t, p)
}

// P5.5, P5.6: drawn programs.
func TestBytesOfDrawnPrograms(t *testing.T) {
	d := die(4)
	wild := []int{math.MinInt, math.MaxInt, 0, -1, 63, 64, -64, -65, 8191, 8192}
	for range 5000 {
		p := programOf("tell 0")
		p.Code = d.code()
		for range d.below(20) {
			p.Pool = append(p.Pool, wild[d.below(len(wild))], d.below(1<<31)<<d.below(33))
		}
		for range d.below(6) {
			a := api.Answer{Clock: api.Clock{Offset: d.below(2*offsetLimit+1) - offsetLimit, Saving: d.below(2) == 0, Name: strings.Repeat("x", d.below(nameLimit+1))}}
			for range d.below(api.MaxList + 1) {
				a.Offsets = append(a.Offsets, d.below(2*offsetLimit+1)-offsetLimit)
			}
			a.Jump = d.below(1<<31)<<9 - d.below(1<<31)<<9
			p.Answers = append(p.Answers, a)
		}
		if _, _, e := Verify(p); e == api.OK {
			holdBytes(t, p)
		} else if f := undone(t, plainBytes(p)); f != e {
			t.Fatalf("%v: %v, want %v", p, f, e)
		}
	}
}

// P5.6: cut short at each byte, and with a byte more.
func TestBytesThatAreTooFewOrTooMany(t *testing.T) {
	b := plainBytes(sampleProgram())
	for i := range b {
		if e := undone(t, b[:i]); e != api.ErrShort {
			t.Errorf("%d bytes: %v", i, e)
		}
	}
	for more := range 256 {
		if e := undone(t, append(slices.Clone(b), byte(more))); e != api.ErrForm {
			t.Errorf("and %d: %v", more, e)
		}
	}
	if e := undone(t, join(b, b)); e != api.ErrForm {
		t.Errorf("twice: %v", e)
	}
}

// P5.6: more than MaxBytes is refused, whatever it is; so many are looked at.
func TestHowManyBytes(t *testing.T) {
	b := append(plainBytes(sampleProgram()), make([]byte, api.MaxBytes)...)
	for _, c := range []struct {
		b    []byte
		want api.Errno
	}{
		{b[:api.MaxBytes], api.ErrForm}, {b[:api.MaxBytes+1], api.ErrSize}, {b, api.ErrSize},
		{make([]byte, api.MaxBytes), api.ErrForm}, {make([]byte, api.MaxBytes+1), api.ErrSize},
	} {
		if e := undone(t, c.b); e != c.want {
			t.Errorf("%d bytes: %v, want %v", len(c.b), e, c.want)
		}
	}
}

// P5.6: the first three bytes are read at once.
func TestTheFirstBytes(t *testing.T) {
	for _, c := range []struct {
		s    string
		want api.Errno
	}{
		{"", api.ErrShort}, {"x", api.ErrShort}, {"xy", api.ErrShort}, {"sd", api.ErrShort}, {"sd1", api.ErrShort},
		{"sd2", api.ErrForm}, {"Sd1", api.ErrForm}, {"s 1", api.ErrForm}, {"xyz\x80\x00", api.ErrForm},
		{"sd1\x00\x00\x00", api.ErrNone},
	} {
		if e := undone(t, []byte(c.s)); e != c.want {
			t.Errorf("%q: %v, want %v", c.s, e, c.want)
		}
	}
}

// field of a program in bytes, and what is wrong there instead.
type field struct {
	what string
	good []byte
	bad  []badBytes
}

type badBytes struct {
	b    []byte
	want api.Errno
}

// badNumbers: in too many bytes, or none of 64 bits.
func badNumbers() []badBytes {
	full := bytes.Repeat([]byte{255}, 9)
	var l []badBytes
	for _, b := range [][]byte{
		{128, 0}, {255, 0}, {129, 128, 0}, {128, 128, 128, 128, 128, 128, 128, 128, 128, 0},
		join(full, byte(0)), join(full, byte(2)), join(full, byte(3)), join(full, byte(127)), join(full, byte(128)), join(full, byte(129)), join(full, byte(255)),
	} {
		l = append(l, badBytes{b, api.ErrForm})
	}
	return l
}

func number(what string, n int) field { return field{what, plainNumber(n), badNumbers()} }

func count(what string, n, most int) field {
	f := number("how many "+what, n)
	for _, bad := range []int{-1, math.MinInt, most + 1, math.MaxInt, 1 << 32} {
		f.bad = append(f.bad, badBytes{plainNumber(bad), api.ErrSize})
	}
	return f
}

func op(n int) field {
	f := field{"Op", []byte{byte(n)}, nil}
	for _, bad := range []byte{0, 7, 128, 129, 255} {
		f.bad = append(f.bad, badBytes{[]byte{bad}, api.ErrKind})
	}
	return f
}

func saving(n int) field {
	f := number("Saving", n)
	for _, bad := range []int{2, -1, math.MinInt, math.MaxInt} {
		f.bad = append(f.bad, badBytes{plainNumber(bad), api.ErrForm})
	}
	return f
}

// sampleFields of a program that has one of each.
func sampleFields() []field {
	return []field{
		{"head", []byte("sd1"), []badBytes{{[]byte("sd0"), api.ErrForm}, {[]byte("\x80d1"), api.ErrForm}}},
		count("instructions", 3, api.MaxCode), op(api.Arg), op(api.Push), number("N", 1), op(api.Tell), number("N", 1),
		count("numbers", 2, api.MaxPool), number("a number", 64), number("a number", math.MinInt),
		count("answers", 2, api.MaxAnswers),
		number("Offset", 60), saving(1), count("bytes", 2, 2*api.MaxName), {"Name", []byte("\x80\x00"), nil}, count("offsets", 1, api.MaxList), number("an offset", 7), number("Jump", 8),
		number("Offset", -60), saving(0), count("bytes", 0, 2*api.MaxName), count("offsets", 0, api.MaxList), number("Jump", -8000),
	}
}

// P5.6: what is wrong first is told: ahead of what is wrong behind it, and of an end behind it.
func TestFaultsInBytes(t *testing.T) {
	fields := sampleFields()
	var all []byte
	for _, f := range fields {
		all = join(all, f.good)
	}
	if e := undone(t, all); e != api.OK {
		t.Fatalf("sample: %v", e)
	}
	var ahead []byte
	for i, f := range fields {
		for _, x := range f.bad {
			var behind []byte
			for _, g := range fields[i+1:] {
				behind = join(behind, g.good)
			}
			rests := [][]byte{nil, behind, join(behind, byte(0))}
			for _, g := range fields[i+1:] {
				for _, y := range g.bad {
					rests = append(rests, y.b)
				}
			}
			for _, rest := range rests {
				if b := join(ahead, x.b, rest); undone(t, b) != x.want {
					t.Errorf("field %d (%s) as %v, and %v behind it: %v, want %v", i, f.what, x.b, rest, undone(t, b), x.want)
				}
			}
		}
		ahead = join(ahead, f.good)
	}
}

// P5.6: a number that ends too early, while it may still become one.
func TestNumbersThatEndTooEarly(t *testing.T) {
	for _, b := range [][]byte{{}, {128}, {255}, {128, 128}, bytes.Repeat([]byte{255}, 9), bytes.Repeat([]byte{128}, 9)} {
		if e := undone(t, join("sd1", b)); e != api.ErrShort {
			t.Errorf("%v: %v", b, e)
		}
	}
}

// P5.6: counts at their limits.
func TestCountsAtTheirLimits(t *testing.T) {
	one := join("sd1", 1, byte(api.Tell), 0)
	for _, c := range []struct {
		b    []byte
		want api.Errno
	}{
		{join("sd1", api.MaxCode), api.ErrShort}, {join("sd1", api.MaxCode+1), api.ErrSize},
		{join(one, api.MaxPool), api.ErrShort}, {join(one, api.MaxPool+1), api.ErrSize},
		{join(one, 0, api.MaxAnswers), api.ErrShort}, {join(one, 0, api.MaxAnswers+1), api.ErrSize},
		{join(one, 0, 1, 0, 0, nameLimit), api.ErrShort}, {join(one, 0, 1, 0, 0, nameLimit+1), api.ErrSize},
		{join(one, 0, 1, 0, 0, nameLimit, strings.Repeat("x", nameLimit), 0, 0), api.OK},
		{join(one, 0, 1, 0, 0, 0, api.MaxList), api.ErrShort}, {join(one, 0, 1, 0, 0, 0, api.MaxList+1), api.ErrSize},
		{join(one, 0, 1, 0, 0, 0, api.MaxList, 1, 2, 3, 4, 5, 6, 0), api.OK},
		{join("sd1", 0, -1), api.ErrSize}, {join("sd1", 0, 0, -1), api.ErrSize},
	} {
		if e := undone(t, c.b); e != c.want {
			t.Errorf("%v: %v, want %v", c.b, e, c.want)
		}
	}
}

// P5.6: then what Verify refuses, and only then.
func TestBytesOfProgramsThatMayNotBeRun(t *testing.T) {
	for _, rank := range programFaults() {
		for _, f := range rank {
			p := sampleProgram()
			f.do(&p)
			q := p // what is not told in bytes: an Op that has no byte, N of Arg and Less
			q.Code = slices.Clone(p.Code)
			for i, x := range q.Code {
				x.Op = int(byte(x.Op))
				q.Code[i].Op = x.Op
				if x.Op == api.Arg || x.Op == api.Less {
					q.Code[i].N = 0
				}
			}
			_, _, want := Verify(q)
			if e := undone(t, plainBytes(q)); e != want {
				t.Errorf("%s: %v, want %v", f.what, e, want)
			}
			if e := undone(t, append(plainBytes(q), 0)); want != api.ErrSize && want != api.ErrKind && e != api.ErrForm {
				t.Errorf("%s, and a byte more: %v", f.what, e)
			}
		}
	}
	for code, want := range map[string]api.Errno{"less; tell 0": api.ErrStack, "arg*9; tell 0": api.ErrStack, "arg": api.ErrShort, "arg; skip 1; arg; tell 0": api.ErrForm} {
		if e := undone(t, plainBytes(programOf(code))); e != want {
			t.Errorf("%s: %v, want %v", code, e, want)
		}
	}
}

// P5.6: whatever bytes are taken, they are those that Encode tells of what they tell.
func TestBytesThatAreChanged(t *testing.T) {
	d := die(5)
	good := plainBytes(sampleProgram())
	taken := 0
	for range 60000 {
		b := slices.Clone(good)
		for range 1 + d.below(3) {
			i := d.below(len(b))
			switch d.below(4) {
			case 0:
				b = slices.Delete(b, i, i+1)
			case 1:
				b = slices.Insert(b, i, byte(d.below(256)))
			case 2:
				b[i] ^= 1 << d.below(8)
			default:
				b[i] = byte(d.below(8))
			}
		}
		p, e := Decode(b)
		if e != api.OK {
			continue
		}
		taken++
		if c, e := Encode(p); e != api.OK || !bytes.Equal(b, c) {
			t.Fatalf("%v: %v, then %v, %v", b, p, c, e)
		}
	}
	if taken < 1000 {
		t.Errorf("only %d were taken", taken)
	}
}
