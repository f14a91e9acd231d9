package tzc

import (
	"math"
	"reflect"
	"slices"
	"strings"
	"testing"
	"unsafe"

	"sundial/api"
)

// stretch of memory: where it begins and ends.
type stretch struct {
	from, to uintptr
}

// room of a list, its spare room too.
func room[T any](l []T) stretch {
	var one T
	from := uintptr(unsafe.Pointer(unsafe.SliceData(l)))
	return stretch{from, from + uintptr(cap(l))*unsafe.Sizeof(one)}
}

func roomOfText(s string) stretch {
	from := uintptr(unsafe.Pointer(unsafe.StringData(s)))
	return stretch{from, from + uintptr(len(s))}
}

// memory that programs lie in: that of their lists, and that of their texts.
func memory(l []api.Found) ([]stretch, []stretch) {
	lists, texts := []stretch{room(l)}, []stretch(nil)
	for _, f := range l {
		texts = append(texts, roomOfText(f.Name))
		for _, p := range []api.Program{f.Forward, f.Inverse} {
			lists = append(lists, room(p.Code), room(p.Pool), room(p.Answers))
			for _, a := range p.Answers {
				lists = append(lists, room(a.Offsets))
				texts = append(texts, roomOfText(a.Clock.Name))
			}
		}
	}
	return lists, texts
}

// overlap: do two stretches of one list share anything?
func overlap(l []stretch) bool {
	l = slices.DeleteFunc(slices.Clone(l), func(s stretch) bool { return s.from == s.to })
	slices.SortFunc(l, func(a, b stretch) int { return int(a.from) - int(b.from) })
	for i := 1; i < len(l); i++ {
		if l[i].from < l[i-1].to {
			return true
		}
	}
	return false
}

// shared: does one of a list share anything with one of another list?
func shared(l, m []stretch) bool {
	for _, a := range l {
		if slices.ContainsFunc(m, func(b stretch) bool { return a.from < b.to && b.from < a.to }) {
			return true
		}
	}
	return false
}

// P6.1: programs are new memory: no two lists of them share any, those of a link and its zone neither, and nothing is shared with the source or with what was answered ahead.
func TestProgramsAreNewMemory(t *testing.T) {
	s := strings.Clone(town + "\nLink Town City\nZone A 0 - B 1950\n0 1 C/D\nLink City E\n")
	for ways := range allWays + 1 {
		one, other := compiled(t, s, ways), compiled(t, s, ways)
		lists, texts := memory(one)
		moreLists, moreTexts := memory(other)
		if overlap(lists) || overlap(append(lists, moreLists...)) {
			t.Errorf("ways %d: lists share memory", ways)
		}
		if shared(texts, append(moreTexts, roomOfText(s))) {
			t.Errorf("ways %d: names share memory", ways)
		}
	}
}

// withRoom: programs whose lists have spare room, with something in it.
func withRoom(l []api.Found) []api.Found {
	roomy := func(p api.Program) api.Program {
		p.Code = append(slices.Clone(p.Code), api.Instr{Op: 77})[:len(p.Code)]
		p.Pool = append(slices.Clone(p.Pool), 77)[:len(p.Pool)]
		p.Answers = append(slices.Clone(p.Answers), api.Answer{Jump: 77})[:len(p.Answers)]
		for i, a := range p.Answers {
			p.Answers[i].Offsets = append(slices.Clone(a.Offsets), 77, 78)[:len(a.Offsets)]
		}
		return p
	}
	out := append(slices.Clone(l), api.Found{Name: "Hidden"})[:len(l)]
	for i, f := range out {
		out[i] = api.Found{Name: f.Name, Forward: roomy(f.Forward), Inverse: roomy(f.Inverse)}
	}
	return out
}

// whole: all that programs have, their spare room too, as a copy.
func whole(l []api.Found) []api.Found {
	all := func(p api.Program) api.Program {
		p.Code, p.Pool = slices.Clone(p.Code[:cap(p.Code)]), slices.Clone(p.Pool[:cap(p.Pool)])
		p.Answers = slices.Clone(p.Answers[:cap(p.Answers)])
		for i, a := range p.Answers {
			p.Answers[i].Offsets = slices.Clone(a.Offsets[:cap(a.Offsets)])
		}
		return p
	}
	out := slices.Clone(l[:cap(l)])
	for i, f := range out {
		out[i] = api.Found{Name: f.Name, Forward: all(f.Forward), Inverse: all(f.Inverse)}
	}
	return out
}

// P6.2, P6.3: programs stay as they are when they are asked, their spare room too, and what they tell shares nothing with them; what lies in the spare room is not found.
func TestAskedProgramsStay(t *testing.T) {
	l := withRoom(compiled(t, town+"\nLink Town City", allWays))
	before := whole(l)
	lists, texts := memory(l)
	for _, n := range []string{"Town", "City", "Hidden"} {
		for _, at := range []int{begin, 954032400, 954039599, 972784800, end, 1 << 41} {
			c, _ := Lookup(l, n, at)
			if shared([]stretch{roomOfText(c.Name)}, texts) {
				t.Errorf("the name %s is shared", c.Name)
			}
			instants, _, e := Local(l, n, at)
			if shared([]stretch{room(instants)}, lists) {
				t.Errorf("instants are shared: %v", instants)
			}
			if n == "Hidden" && e != api.ErrNone {
				t.Errorf("%s is found", n)
			}
			for i := range instants[:cap(instants)] {
				instants[:cap(instants)][i] = 99
			}
		}
	}
	if !reflect.DeepEqual(whole(l), before) {
		t.Error("they were changed")
	}
}

// Every call of whatever programs ends, and answers the same each time.
func TestProgramsOfWhateverMayCome(t *testing.T) {
	d := die(8)
	wild := []int{math.MinInt, math.MaxInt, begin - 1, begin, end - 1, end, -1, 0, 1, 2, 7, 1 << 40, -1 << 40, 172800, 172801}
	number := func() int { return wild[d.below(len(wild))] }
	drawn := func() api.Program {
		var p api.Program
		for range d.below(6) {
			p.Code = append(p.Code, api.Instr{Op: d.below(8), N: d.below(3)})
		}
		for range d.below(4) {
			p.Pool = append(p.Pool, number())
			p.Answers = append(p.Answers, api.Answer{Offsets: []int{number() * d.below(2)}, Jump: number() * d.below(2)})
		}
		if d.below(2) == 0 {
			p.Code = append(p.Code, api.Instr{Op: api.Tell})
		}
		return p
	}
	found := 0
	for range 20000 {
		var l []api.Found
		for range d.below(3) {
			l = append(l, api.Found{Name: d.pick("", "A", "B"), Forward: drawn(), Inverse: drawn()})
		}
		n, at := d.pick("", "A", "B"), number()
		outcome := func() []any {
			c, e := Lookup(l, n, at)
			instants, jump, f := Local(l, n, at)
			if f == api.OK {
				found++
			}
			return []any{c, e, instants, jump, f}
		}
		if one, other := outcome(), outcome(); !reflect.DeepEqual(one, other) {
			t.Fatalf("%v, then %v", one, other)
		}
	}
	if found < 200 {
		t.Errorf("only %d were told", found)
	}
}
