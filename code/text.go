package code

import (
	"strconv"
	"strings"

	"sundial/api"
)

// checkLine: may an instruction be told as a line?
func checkLine(x api.Instr) api.Errno {
	if !isOperator(x.Op) {
		return api.ErrKind
	}
	most := 0
	if operatorOf(x.Op).numbered {
		most = api.MaxCode
	}
	if x.N < 0 || x.N > most {
		return api.ErrRange
	}
	return api.OK
}

// line of an instruction that may be told so.
func line(x api.Instr) string {
	o := operatorOf(x.Op)
	if !o.numbered {
		return o.name + "\n"
	}
	return o.name + " " + strconv.Itoa(x.N) + "\n"
}

// instruction of a line, without its end.
func instruction(text string) (api.Instr, api.Errno) {
	word, digits, has := strings.Cut(text, " ")
	op, ok := named(word)
	if !ok {
		return api.Instr{}, api.ErrKind
	}
	if has != operatorOf(op).numbered {
		return api.Instr{}, api.ErrForm
	}
	if !has {
		return api.Instr{Op: op}, api.OK
	}
	// What Text would write for that number, and nothing else, is its form: no sign, no needless 0.
	n, wrong := strconv.Atoi(digits)
	if wrong != nil || n < 0 || n > api.MaxCode || strconv.Itoa(n) != digits {
		return api.Instr{}, api.ErrForm
	}
	return api.Instr{Op: op, N: n}, api.OK
}
