// Package civil: days and instants.
package civil

import "sundial/api"

const (
	daySeconds   = 86400
	earliestYear = api.FirstYear - 1
	latestYear   = api.LastYear + 1
)

// daysAhead: of each month, in a year that is no leap year. The thirteenth number stands for the next year's January, so that every month ends where another one begins.
var daysAhead = [13]int{0, 31, 59, 90, 120, 151, 181, 212, 243, 273, 304, 334, 365}

// Leap: has a year a day more?
func Leap(y int) bool {
	return y%4 == 0 && y%100 != 0 || y%400 == 0
}

// Days of a month.
func Days(y, m int) (int, api.Errno) {
	if y < earliestYear || y > latestYear || m < 1 || m > 12 {
		return 0, api.ErrRange
	}
	return monthBegin(y, m+1) - monthBegin(y, m), api.OK
}

// Number of a day, since the first one of 1970.
func Number(y, m, d int) (int, api.Errno) {
	days, e := Days(y, m)
	if e != api.OK {
		return 0, e
	}
	if d < 1 || d > days {
		return 0, api.ErrRange
	}
	return monthBegin(y, m) + d - 1, api.OK
}

// Date of a day's number.
func Date(n int) (int, int, int, api.Errno) {
	first := yearBegin(earliestYear)
	if n < first || n >= yearBegin(latestYear+1) {
		return 0, 0, 0, api.ErrRange
	}
	// No year is longer than 366 days: the guess may be too early, but never too late.
	y := earliestYear + (n-first)/366
	for n >= yearBegin(y+1) {
		y++
	}
	m := 1
	for n >= monthBegin(y, m+1) {
		m++
	}
	return y, m, n - monthBegin(y, m) + 1, api.OK
}

// Weekday of a day's number.
func Weekday(n int) int {
	// The remainder may be below 0; day 0 is a Thursday (4), and a week more (7) changes nothing.
	return (n%7 + 4 + 7) % 7
}

// CheckDay: may it be a day of a month?
func CheckDay(d api.Day) api.Errno {
	leastN, mostN, mostW := 1, 31, 6
	switch d.Kind {
	case api.On:
		mostW = 0
	case api.Last:
		leastN, mostN = 0, 0
	case api.After, api.Before:
	default:
		return api.ErrKind
	}
	if d.N < leastN || d.N > mostN || d.W < 0 || d.W > mostW {
		return api.ErrRange
	}
	return api.OK
}

// Find the number of a day of a month: it may be in the next one, or in the one ahead.
func Find(y, m int, d api.Day) (int, api.Errno) {
	if e := CheckDay(d); e != api.OK {
		return 0, e
	}
	days, e := Days(y, m)
	if e != api.OK {
		return 0, e
	}
	if d.N > days {
		return 0, api.ErrRange
	}
	begin := monthBegin(y, m)
	switch d.Kind {
	case api.Last:
		return notBehind(begin+days-1, d.W), api.OK
	case api.After:
		return notAhead(begin+d.N-1, d.W), api.OK
	case api.Before:
		return notBehind(begin+d.N-1, d.W), api.OK
	}
	return begin + d.N - 1, api.OK
}

// CheckMoment: may it be a moment of a year?
func CheckMoment(m api.Moment) api.Errno {
	if e := CheckDay(m.Day); e != api.OK {
		return e
	}
	if m.Clock != api.Wall && m.Clock != api.Standard && m.Clock != api.World {
		return api.ErrKind
	}
	if m.Month < 1 || m.Month > 12 || m.Time < 0 || m.Time > api.MaxTime {
		return api.ErrRange
	}
	return api.OK
}

// Instant of a moment of a year, for a clock with an offset, that saves so many seconds then.
func Instant(y int, m api.Moment, offset, save int) (int, api.Errno) {
	if e := CheckMoment(m); e != api.OK {
		return 0, e
	}
	if !offsetMayBe(offset) || !offsetMayBe(save) {
		return 0, api.ErrRange
	}
	day, e := Find(y, m.Month, m.Day)
	if e != api.OK {
		return 0, e
	}
	t := day*daySeconds + m.Time
	if m.Clock != api.World {
		t -= offset
	}
	if m.Clock == api.Wall {
		t -= save
	}
	return t, api.OK
}

// Window of instants: the first one, and the one behind all.
func Window() (int, int) {
	return yearBegin(api.FirstYear) * daySeconds, yearBegin(api.LastYear+1) * daySeconds
}

// yearBegin: the number of a year's first day.
func yearBegin(y int) int {
	return 365*(y-1970) + leapYearsAhead(y) - leapYearsAhead(1970)
}

// leapYearsAhead of a year, from year 1 on.
func leapYearsAhead(y int) int {
	return (y-1)/4 - (y-1)/100 + (y-1)/400
}

// monthBegin: the number of a month's first day; month 13 is the next year's January.
func monthBegin(y, m int) int {
	n := yearBegin(y) + daysAhead[m-1]
	if m > 2 && Leap(y) {
		n++
	}
	return n
}

// notAhead: the first day of a weekday that is not ahead of day n.
func notAhead(n, w int) int {
	return n + (w-Weekday(n)+7)%7
}

// notBehind: the last day of a weekday that is not behind day n.
func notBehind(n, w int) int {
	return n - (Weekday(n)-w+7)%7
}

func offsetMayBe(n int) bool {
	return n >= -api.MaxOffset && n <= api.MaxOffset
}
