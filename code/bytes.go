package code

import "sundial/api"

const (
	head       = "sd1"
	sevenBits  = 1<<7 - 1
	follows    = 1 << 7 // another byte does
	mostBytes  = 10     // of a number: nine times seven bits, and one more
	mostOfLast = 1
	mostName   = 2 * api.MaxName
)

func appendNumber(b []byte, n int) []byte {
	u := 2 * uint64(n)
	if n < 0 {
		u = ^u // -2n - 1, without leaving 64 bits
	}
	for ; u >= follows; u >>= 7 {
		b = append(b, byte(u&sevenBits)|follows)
	}
	return append(b, byte(u))
}

// appendNumbers: how many there are, and these.
func appendNumbers(b []byte, l []int) []byte {
	b = appendNumber(b, len(l))
	for _, n := range l {
		b = appendNumber(b, n)
	}
	return b
}

func appendCode(b []byte, code []api.Instr) []byte {
	b = appendNumber(b, len(code))
	for _, x := range code {
		b = append(b, byte(x.Op))
		if operatorOf(x.Op).numbered {
			b = appendNumber(b, x.N)
		}
	}
	return b
}

func appendAnswer(b []byte, a api.Answer) []byte {
	b = appendNumber(b, a.Clock.Offset)
	b = appendNumber(b, oneIf(a.Clock.Saving))
	b = appendNumber(b, len(a.Clock.Name))
	b = append(b, a.Clock.Name...)
	b = appendNumbers(b, a.Offsets)
	return appendNumber(b, a.Jump)
}

// reader of bytes: what is wrong first stays; what is read from there on is nothing, and does not count.
type reader struct {
	rest  []byte
	wrong api.Errno
}

func (r *reader) fail(e api.Errno) {
	if r.wrong == api.OK {
		r.wrong = e
	}
}

func (r *reader) program() api.Program {
	if string(r.bytes(len(head))) != head {
		r.fail(api.ErrForm)
	}
	var p api.Program
	for range r.count(api.MaxCode) {
		p.Code = append(p.Code, r.instruction())
	}
	p.Pool = r.numbers(api.MaxPool)
	for range r.count(api.MaxAnswers) {
		p.Answers = append(p.Answers, r.answer())
	}
	if len(r.rest) > 0 {
		r.fail(api.ErrForm)
	}
	return p
}

func (r *reader) instruction() api.Instr {
	x := api.Instr{Op: int(r.byte())}
	if !isOperator(x.Op) {
		r.fail(api.ErrKind)
		return api.Instr{}
	}
	if operatorOf(x.Op).numbered {
		x.N = r.number()
	}
	return x
}

func (r *reader) answer() api.Answer {
	var a api.Answer
	a.Clock.Offset = r.number()
	a.Clock.Saving = r.yes()
	a.Clock.Name = string(r.bytes(r.count(mostName)))
	a.Offsets = r.numbers(api.MaxList)
	a.Jump = r.number()
	return a
}

// yes or no: 1 or 0.
func (r *reader) yes() bool {
	n := r.number()
	if n != 0 && n != 1 {
		r.fail(api.ErrForm)
	}
	return n == 1
}

// numbers: how many there are, and these.
func (r *reader) numbers(most int) []int {
	var l []int
	for range r.count(most) {
		l = append(l, r.number())
	}
	return l
}

func (r *reader) count(most int) int {
	n := r.number()
	if n < 0 || n > most {
		r.fail(api.ErrSize)
		return 0
	}
	return n
}

func (r *reader) number() int {
	var u uint64
	for i := range mostBytes {
		b := r.byte()
		if i > 0 && b == 0 || i == mostBytes-1 && b > mostOfLast {
			r.fail(api.ErrForm)
			return 0
		}
		u |= uint64(b&sevenBits) << (7 * i)
		if b < follows {
			break
		}
	}
	if u%2 == 0 {
		return int(u / 2)
	}
	return -int(u/2) - 1
}

func (r *reader) byte() byte {
	if l := r.bytes(1); len(l) == 1 {
		return l[0]
	}
	return 0
}

// bytes: the next ones; none, if there are not so many, or if something is wrong already.
func (r *reader) bytes(many int) []byte {
	if len(r.rest) < many {
		r.fail(api.ErrShort)
	}
	if r.wrong != api.OK {
		return nil
	}
	l := r.rest[:many]
	r.rest = r.rest[many:]
	return l
}
