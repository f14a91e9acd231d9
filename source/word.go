package source

import (
	"strings"

	"sundial/api"
)

// Each function here takes one word, or a piece of one, and throws the Errno of what is wrong in it.

const (
	maxDigits   = 6
	maxHours    = 999
	yearNumbers = 9999
	dayNumbers  = 31
)

var months = [12]string{"Jan", "Feb", "Mar", "Apr", "May", "Jun", "Jul", "Aug", "Sep", "Oct", "Nov", "Dec"}

var weekdays = [7]string{"Sun", "Mon", "Tue", "Wed", "Thu", "Fri", "Sat"}

func name(s string) string {
	if !Name(s) {
		panic(api.ErrForm)
	}
	return s
}

func letters(s string) string {
	if s == "-" {
		return ""
	}
	if !Letters(s) {
		panic(api.ErrForm)
	}
	return s
}

// number up to a greatest one.
func number(s string, most int) int {
	if s == "" || len(s) > maxDigits || !all(s, isDigit) || s[0] == '0' && s != "0" {
		panic(api.ErrForm)
	}
	n := 0
	for i := range len(s) {
		n = 10*n + int(s[i]-'0')
	}
	if n > most {
		panic(api.ErrRange)
	}
	return n
}

// sixty: two digits below 60, minutes or seconds.
func sixty(s string) int {
	if len(s) != 2 || !all(s, isDigit) || s[0] > '5' {
		panic(api.ErrForm)
	}
	return 10*int(s[0]-'0') + int(s[1]-'0')
}

// hours, perhaps with minutes and seconds, up to a greatest one: in seconds.
func hours(s string, most int) int {
	hour, behind, ok := strings.Cut(s, ":")
	n := 3600 * number(hour, maxHours)
	if ok {
		minute, second, ok := strings.Cut(behind, ":")
		n += 60 * sixty(minute)
		if ok {
			n += sixty(second)
		}
	}
	if n > most {
		panic(api.ErrRange)
	}
	return n
}

func offset(s string) int {
	if less, ok := strings.CutPrefix(s, "-"); ok {
		return -hours(less, api.MaxOffset)
	}
	return hours(s, api.MaxOffset)
}

// saving of an era: the name of rules, or what is always saved.
func saving(s string) (string, int) {
	if s == "-" {
		return "", 0
	}
	if isDigit(s[0]) || s[0] == '-' {
		return "", offset(s)
	}
	return name(s), 0
}

func year(s string) int {
	y := number(s, yearNumbers)
	if y < api.FirstYear || y > api.LastYear {
		panic(api.ErrRange)
	}
	return y
}

// lastYear of a rule that begins in a year.
func lastYear(s string, from int) int {
	switch s {
	case "only":
		return from
	case "max":
		return api.LastYear
	}
	y := year(s)
	if y < from {
		panic(api.ErrOrder)
	}
	return y
}

func month(s string) int {
	for i := range months {
		if months[i] == s {
			return i + 1
		}
	}
	panic(api.ErrForm)
}

func weekday(s string) int {
	for i := range weekdays {
		if weekdays[i] == s {
			return i
		}
	}
	panic(api.ErrForm)
}

func dayNumber(s string) int {
	n := number(s, dayNumbers)
	if n < 1 {
		panic(api.ErrRange)
	}
	return n
}

func day(s string) api.Day {
	if w, ok := strings.CutPrefix(s, "last"); ok {
		return api.Day{Kind: api.Last, W: weekday(w)}
	}
	if w, n, ok := strings.Cut(s, ">="); ok {
		return weekdayBy(api.After, w, n)
	}
	if w, n, ok := strings.Cut(s, "<="); ok {
		return weekdayBy(api.Before, w, n)
	}
	return api.Day{Kind: api.On, N: dayNumber(s)}
}

// weekdayBy a day number; the weekday stands first, and is refused first.
func weekdayBy(kind int, w, n string) api.Day {
	d := api.Day{Kind: kind}
	d.W = weekday(w)
	d.N = dayNumber(n)
	return d
}

// time of a day, and by which clock.
func time(s string) (int, int) {
	last := len(s) - 1
	if last < 1 || isDigit(s[last]) {
		return hours(s, api.MaxTime), api.Wall
	}
	clock := clockOf(s[last])
	return hours(s[:last], api.MaxTime), clock
}

func clockOf(c byte) int {
	switch c {
	case 'w':
		return api.Wall
	case 's':
		return api.Standard
	case 'u':
		return api.World
	}
	panic(api.ErrForm)
}
