package tree

import (
	"sundial/api"
	"sundial/civil"
)

const (
	mostOffset = 2 * api.MaxOffset // an era's, and what is saved
	mostName   = 2 * api.MaxName   // a format, with letters in it
	mostJump   = 1 << 40
)

// CheckAnswer: may it be?
func CheckAnswer(a api.Answer) api.Errno {
	if !offsetMayBe(a.Clock.Offset) || a.Jump < -mostJump || a.Jump > mostJump {
		return api.ErrRange
	}
	for _, n := range a.Offsets {
		if !offsetMayBe(n) {
			return api.ErrRange
		}
	}
	if len(a.Offsets) > api.MaxList || len(a.Clock.Name) > mostName {
		return api.ErrSize
	}
	return api.OK
}

// Check a forest.
func Check(f api.Forest) api.Errno {
	if len(f.Nodes) == 0 {
		return api.ErrNone
	}
	if len(f.Nodes) > api.MaxCode || len(f.Answers) > api.MaxAnswers {
		return api.ErrSize
	}
	for _, a := range f.Answers {
		if e := CheckAnswer(a); e != api.OK {
			return e
		}
	}
	for i, n := range f.Nodes {
		if e := checkNode(n, i, len(f.Answers)); e != api.OK {
			return e
		}
	}
	return api.OK
}

// checkNode at a place of a forest that has so many answers.
func checkNode(n api.Node, place, answers int) api.Errno {
	switch {
	case n.Leaf && !isPlace(n.Answer, answers):
		return api.ErrRange
	case n.Leaf && (n.Bound != 0 || n.Less != 0 || n.More != 0):
		return api.ErrForm
	case !n.Leaf && n.Answer != 0:
		return api.ErrForm
	case !n.Leaf && (!isPlace(n.Less, place) || !isPlace(n.More, place)):
		return api.ErrOrder
	}
	return api.OK
}

// checkSpans: may they be?
func checkSpans(l []api.Span) api.Errno {
	if len(l) == 0 {
		return api.ErrNone
	}
	if len(l) > api.MaxSpans {
		return api.ErrSize
	}
	begin, end := civil.Window()
	for i, s := range l {
		switch {
		case len(s.Clock.Name) > mostName:
			return api.ErrSize
		case s.From < begin || s.From >= end || !offsetMayBe(s.Clock.Offset):
			return api.ErrRange
		case i == 0 && s.From != begin || i > 0 && s.From <= l[i-1].From:
			return api.ErrOrder
		}
	}
	return api.OK
}

func offsetMayBe(n int) bool {
	return n >= -mostOffset && n <= mostOffset
}

// isPlace: is it one of a list with so many elements?
func isPlace(n, many int) bool {
	return n >= 0 && n < many
}
