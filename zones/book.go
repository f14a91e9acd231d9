package zones

import (
	"sundial/api"
	"sundial/civil"
	"sundial/source"
)

// finder: where does a name stand first?
type finder func(name string) (int, bool)

// book: a source, where its names stand, and the turns of its rules: those of a name at the place of the first rule that has it, so that no zone reckons them again.
type book struct {
	source api.Source
	rule   finder
	zone   finder
	link   finder
	turns  [][]turn
}

// mark names by their places.
func mark(many int, name func(int) string) finder {
	places := make(map[string]int, many)
	for i := range many {
		if _, ok := places[name(i)]; !ok {
			places[name(i)] = i
		}
	}
	return func(n string) (int, bool) {
		place, ok := places[n]
		return place, ok
	}
}

// look a source over, and make a book of it, if it may be.
func look(s api.Source) (book, api.Errno) {
	if max(len(s.Rules), len(s.Zones), len(s.Links)) > api.MaxLines {
		return book{}, api.ErrSize
	}
	for _, r := range s.Rules {
		if e := checkRule(r); e != api.OK {
			return book{}, e
		}
	}
	b := book{
		source: s,
		rule:   mark(len(s.Rules), func(i int) string { return s.Rules[i].Name }),
		zone:   mark(len(s.Zones), func(i int) string { return s.Zones[i].Name }),
		link:   mark(len(s.Links), func(i int) string { return s.Links[i].Name }),
	}
	b.turns = turnsOf(s.Rules, b.rule)
	for i, z := range s.Zones {
		if e := b.checkZone(z); e != api.OK {
			return book{}, e
		}
		if first, _ := b.zone(z.Name); first < i {
			return book{}, api.ErrTwice
		}
	}
	if e := b.checkLinks(); e != api.OK {
		return book{}, e
	}
	return b, api.OK
}

func checkRule(r api.Rule) api.Errno {
	switch {
	case !source.Name(r.Name) || !source.Letters(r.Letters):
		return api.ErrForm
	case !yearMayBe(r.From) || !yearMayBe(r.To) || !offsetMayBe(r.Save):
		return api.ErrRange
	case r.To < r.From:
		return api.ErrOrder
	}
	return civil.CheckMoment(r.At)
}

func (b book) checkZone(z api.Zone) api.Errno {
	if !source.Name(z.Name) {
		return api.ErrForm
	}
	if len(z.Eras) == 0 || len(z.Eras) > api.MaxEras {
		return api.ErrSize
	}
	for i, era := range z.Eras {
		if e := b.checkEra(era, i == len(z.Eras)-1); e != api.OK {
			return e
		}
	}
	for i := 1; i < len(z.Eras) && z.Eras[i].Ends; i++ {
		if b.end(z.Eras[i]) <= b.end(z.Eras[i-1]) {
			return api.ErrOrder
		}
	}
	return api.OK
}

func (b book) checkEra(era api.Era, last bool) api.Errno {
	if !eraInForm(era, last) {
		return api.ErrForm
	}
	if !offsetMayBe(era.Offset) || !offsetMayBe(era.Save) {
		return api.ErrRange
	}
	if _, ok := b.rule(era.Rules); era.Rules != "" && !ok {
		return api.ErrNone
	}
	if !era.Ends {
		return api.OK
	}
	if !yearMayBe(era.Year) {
		return api.ErrRange
	}
	if e := civil.CheckMoment(era.Until); e != api.OK {
		return e
	}
	_, e := civil.Find(era.Year, era.Until.Month, era.Until.Day)
	return e
}

func eraInForm(era api.Era, last bool) bool {
	switch {
	case !source.Format(era.Format), era.Rules != "" && !source.Name(era.Rules), era.Rules != "" && era.Save != 0:
		return false
	case last:
		return !era.Ends && era.Year == 0 && era.Until == api.Moment{}
	}
	return era.Ends
}

func (b book) checkLinks() api.Errno {
	links := b.source.Links
	for i, l := range links {
		if !source.Name(l.Of) || !source.Name(l.Name) {
			return api.ErrForm
		}
		_, taken := b.zone(l.Name)
		if first, _ := b.link(l.Name); taken || first < i {
			return api.ErrTwice
		}
	}
	// A link that leads nowhere is refused ahead of all loops, wherever it stands.
	for _, l := range links {
		_, zone := b.zone(l.Of)
		if _, link := b.link(l.Of); !zone && !link {
			return api.ErrNone
		}
	}
	for _, l := range links {
		if _, e := b.follow(l.Name); e != api.OK {
			return e
		}
	}
	return api.OK
}

// follow links from a name to a zone's place.
func (b book) follow(name string) (int, api.Errno) {
	for range api.MaxLinks + 1 {
		if place, ok := b.zone(name); ok {
			return place, api.OK
		}
		place, ok := b.link(name)
		if !ok {
			return 0, api.ErrNone
		}
		name = b.source.Links[place].Of
	}
	return 0, api.ErrLoop
}

func yearMayBe(y int) bool {
	return y >= api.FirstYear && y <= api.LastYear
}

func offsetMayBe(n int) bool {
	return n >= -api.MaxOffset && n <= api.MaxOffset
}
