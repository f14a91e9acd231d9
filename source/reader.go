package source

import (
	"strings"

	"sundial/api"
)

// reader of a source, line by line.
type reader struct {
	read api.Source
	open bool // the era read last Ends: the next line with words is an era more
}

// line: what is wrong in it is thrown as an Errno where it is found, however deep, and caught here.
func (r *reader) line(s string) (e api.Errno) {
	defer func() {
		if wrong := recover(); wrong != nil {
			e = wrong.(api.Errno)
		}
	}()
	l := words(s)
	switch {
	case len(l) == 0:
	case r.open:
		count(l, eraLeast, eraMost)
		r.addEra(l)
	case l[0] == "Rule":
		count(l, ruleWords, ruleWords)
		r.read.Rules = append(r.read.Rules, rule(l))
	case l[0] == "Zone":
		count(l, zoneAhead+eraLeast, zoneAhead+eraMost)
		r.read.Zones = append(r.read.Zones, api.Zone{Name: name(l[1])})
		r.addEra(l[zoneAhead:])
	case l[0] == "Link":
		count(l, linkWords, linkWords)
		r.read.Links = append(r.read.Links, link(l))
	default:
		panic(api.ErrForm)
	}
	return api.OK
}

// addEra to the zone read last.
func (r *reader) addEra(l []string) {
	x := era(l)
	z := &r.read.Zones[len(r.read.Zones)-1]
	if len(z.Eras) == api.MaxEras {
		panic(api.ErrSize)
	}
	z.Eras = append(z.Eras, x)
	r.open = x.Ends
}

// words of a line.
func words(s string) []string {
	s, _, _ = strings.Cut(s, "#")
	l := strings.FieldsFunc(s, func(c rune) bool { return c == ' ' || c == '\t' })
	for _, w := range l {
		if len(w) > api.MaxWord {
			panic(api.ErrSize)
		}
	}
	return l
}

// count words: they are looked at only where there are as many as there must be.
func count(l []string, least, most int) {
	if len(l) < least || len(l) > most {
		panic(api.ErrForm)
	}
}

// rule of a line: its words one by one, since the first wrong one tells the error.
func rule(l []string) api.Rule {
	var r api.Rule
	r.Name = name(l[1])
	r.From = year(l[2])
	r.To = lastYear(l[3], r.From)
	if l[4] != "-" {
		panic(api.ErrForm)
	}
	r.At.Month = month(l[5])
	r.At.Day = day(l[6])
	r.At.Time, r.At.Clock = time(l[7])
	r.Save = offset(l[8])
	r.Letters = letters(l[9])
	return r
}

func link(l []string) api.Link {
	var x api.Link
	x.Of = name(l[1])
	x.Name = name(l[2])
	return x
}

func era(l []string) api.Era {
	var x api.Era
	x.Offset = offset(l[0])
	x.Rules, x.Save = saving(l[1])
	if !Format(l[2]) {
		panic(api.ErrForm)
	}
	x.Format = l[2]
	if len(l) > eraLeast {
		x.Ends = true
		x.Year = year(l[3])
		x.Until = until(l[4:])
	}
	return x
}

// until: a month, a day and a time, of which the last ones may be left out.
func until(l []string) api.Moment {
	m := api.Moment{Month: 1, Day: api.Day{Kind: api.On, N: 1}, Time: 0, Clock: api.Wall}
	if len(l) > 0 {
		m.Month = month(l[0])
	}
	if len(l) > 1 {
		m.Day = day(l[1])
	}
	if len(l) > 2 {
		m.Time, m.Clock = time(l[2])
	}
	return m
}
