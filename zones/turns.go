package zones

import (
	"cmp"
	"slices"
	"sort"

	"sundial/api"
	"sundial/civil"
)

const daySeconds = 86400

// turn of rules: what it is told, by its own clock, in seconds from the beginning of 1970; what the turn ahead saves, and what it saves itself. None of it hangs on an era.
type turn struct {
	told    int
	clock   int
	ahead   int
	save    int
	letters string
	rule    int
}

// turnsOf the rules of each name, in their order, at the place of the first rule of that name.
func turnsOf(rules []api.Rule, first finder) [][]turn {
	turns := make([][]turn, len(rules))
	for i, r := range rules {
		place, _ := first(r.Name)
		turns[place] = append(turns[place], turnsOfRule(r, i)...)
	}
	for _, l := range turns {
		slices.SortFunc(l, func(a, b turn) int {
			return cmp.Or(cmp.Compare(a.told, b.told), cmp.Compare(a.rule, b.rule))
		})
		for i := 1; i < len(l); i++ {
			l[i].ahead = l[i-1].save
		}
	}
	return turns
}

func turnsOfRule(r api.Rule, place int) []turn {
	var turns []turn
	for y := r.From; y <= r.To; y++ {
		day, e := civil.Find(y, r.At.Month, r.At.Day)
		if e != api.OK {
			continue // such as the 29th of February, in most years
		}
		turns = append(turns, turn{
			told:    day*daySeconds + r.At.Time,
			clock:   r.At.Clock,
			save:    r.Save,
			letters: r.Letters,
			rule:    place,
		})
	}
	return turns
}

// instant of a turn, in an era with an offset.
func (x turn) instant(offset int) int {
	switch x.clock {
	case api.Wall:
		return x.told - offset - x.ahead
	case api.Standard:
		return x.told - offset
	}
	return x.told
}

// saved in an era at an instant, and the letters.
func (b book) saved(era api.Era, t int) (int, string) {
	first, ok := b.rule(era.Rules)
	if !ok {
		return era.Save, ""
	}
	turns := b.turns[first]
	// Turns are in the order of what they are told, not in that of their instants. But an instant is at most an offset and what is saved away from it: turns from here on are all behind.
	i := sort.Search(len(turns), func(i int) bool { return turns[i].told > t+2*api.MaxOffset })
	for i--; i >= 0; i-- {
		if turns[i].instant(era.Offset) <= t {
			return turns[i].save, turns[i].letters
		}
	}
	return 0, b.lettersAhead(era.Rules)
}

// lettersAhead of all turns of rules.
func (b book) lettersAhead(name string) string {
	for _, r := range b.source.Rules {
		if r.Name == name && r.Save == 0 {
			return r.Letters
		}
	}
	return ""
}

// end of an era that Ends.
func (b book) end(era api.Era) int {
	// With nothing saved, an instant by Wall is the one that it would be by Standard.
	t, _ := civil.Instant(era.Year, era.Until, era.Offset, 0)
	if era.Until.Clock == api.Wall {
		save, _ := b.saved(era, t-1)
		t -= save
	}
	return t
}

// changes: the instants of an era from one on, below another one, from which on there may be another clock; the first one is its beginning.
func (b book) changes(era api.Era, from, to int) []int {
	if from >= to {
		return nil
	}
	changes := []int{from}
	if first, ok := b.rule(era.Rules); ok {
		for _, x := range b.turns[first] {
			if t := x.instant(era.Offset); t > from && t < to {
				changes = append(changes, t)
			}
		}
	}
	slices.Sort(changes)
	return changes
}
