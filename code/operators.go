package code

import "sundial/api"

// operator: what it is called, how many it takes from the stack and lays on it, and whether it has a number.
type operator struct {
	name     string
	takes    int
	lays     int
	numbered bool
}

// operators from Arg on, up to Tell.
var operators = [6]operator{
	{"arg", 0, 1, false},
	{"push", 0, 1, true},
	{"less", 2, 1, false},
	{"skip", 1, 0, true},
	{"go", 0, 0, true},
	{"tell", 0, 0, true},
}

func isOperator(op int) bool {
	return op >= api.Arg && op <= api.Tell
}

// operatorOf an Op that there is.
func operatorOf(op int) operator {
	return operators[op-api.Arg]
}

// named: the Op that is called so, if there is one.
func named(word string) (int, bool) {
	for op := api.Arg; op <= api.Tell; op++ {
		if operatorOf(op).name == word {
			return op, true
		}
	}
	return 0, false
}
