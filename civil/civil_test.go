package civil

import (
	"math"
	"testing"
	"time"

	"sundial/api"
)

// The numbers that are furthest out, and some that wrap round when they are reckoned with.
var far = []int{math.MinInt64, math.MinInt64 + 1, math.MinInt32, -1 << 40, 1 << 40, math.MaxInt32, math.MaxInt64 - 1, math.MaxInt64}

// day by the library's calendar, which is held against the program's own.
func day(y, m, d int) time.Time {
	return time.Date(y, time.Month(m), d, 0, 0, 0, 0, time.UTC)
}

func number(t time.Time) int { return int(t.Unix() / 86400) }

// eachMonth of all years that may be.
func eachMonth(f func(y, m int)) {
	for y := 1899; y <= 2100; y++ {
		for m := 1; m <= 12; m++ {
			f(y, m)
		}
	}
}

// wrongMonths: years and months of which at least one may not be.
func wrongMonths() [][2]int {
	l := [][2]int{{1898, 1}, {1898, 12}, {2101, 1}, {2101, 12}, {0, 1}, {-2000, 1}, {2000, 0}, {2000, 13}, {2000, -1}, {1899, 0}, {2100, 13}}
	for _, n := range far {
		l = append(l, [2]int{n, 1}, [2]int{2000, n}, [2]int{n, n})
	}
	return l
}

// P1.1

func TestLeap(t *testing.T) {
	for _, y := range []int{4, 1904, 1996, 2000, 2096, 2400, 0, -4, -400, 1600} {
		if !Leap(y) {
			t.Errorf("Leap(%d): false", y)
		}
	}
	for _, y := range []int{1, 1899, 1900, 1970, 1999, 2001, 2002, 2100, 2200, 2300, -1, -100, -300} {
		if Leap(y) {
			t.Errorf("Leap(%d): true", y)
		}
	}
	if !Leap(math.MinInt64) || Leap(math.MaxInt64) { // -2^63 is divided by 4, not by 100
		t.Error("Leap of the numbers furthest out")
	}
}

// P1.2

func TestDaysOfEachMonth(t *testing.T) {
	eachMonth(func(y, m int) {
		want := day(y, m+1, 0).Day()
		if got, e := Days(y, m); got != want || e != api.OK {
			t.Errorf("Days(%d, %d): %d %v, want %d", y, m, got, e, want)
		}
	})
}

func TestDaysRefuses(t *testing.T) {
	for _, c := range wrongMonths() {
		if got, e := Days(c[0], c[1]); got != 0 || e != api.ErrRange {
			t.Errorf("Days(%d, %d): %d %v", c[0], c[1], got, e)
		}
	}
}

func TestNumberAndDateOfEachDay(t *testing.T) {
	eachMonth(func(y, m int) {
		for d := 1; d <= day(y, m+1, 0).Day(); d++ {
			want := number(day(y, m, d))
			if got, e := Number(y, m, d); got != want || e != api.OK {
				t.Fatalf("Number(%d, %d, %d): %d %v, want %d", y, m, d, got, e, want)
			}
			if a, b, c, e := Date(want); a != y || b != m || c != d || e != api.OK {
				t.Fatalf("Date(%d): %d %d %d %v, want %d %d %d", want, a, b, c, e, y, m, d)
			}
		}
	})
}

func TestNumberOfKnownDays(t *testing.T) {
	for _, c := range []struct{ y, m, d, want int }{
		{1970, 1, 1, 0},
		{1969, 12, 31, -1},
		{1970, 12, 31, 364},
		{2000, 2, 29, 11016},
		{1899, 1, 1, -25932},
		{1900, 1, 1, -25567},
		{2100, 12, 31, 47846},
	} {
		if got, e := Number(c.y, c.m, c.d); got != c.want || e != api.OK {
			t.Errorf("Number(%d, %d, %d): %d %v, want %d", c.y, c.m, c.d, got, e, c.want)
		}
	}
}

func TestNumberRefuses(t *testing.T) {
	for _, c := range wrongMonths() {
		if got, e := Number(c[0], c[1], 1); got != 0 || e != api.ErrRange {
			t.Errorf("Number(%d, %d, 1): %d %v", c[0], c[1], got, e)
		}
	}
	eachMonth(func(y, m int) {
		for _, d := range append([]int{-1, 0, 32, day(y, m+1, 0).Day() + 1}, far...) {
			if got, e := Number(y, m, d); got != 0 || e != api.ErrRange {
				t.Errorf("Number(%d, %d, %d): %d %v", y, m, d, got, e)
			}
		}
	})
}

func TestDateRefuses(t *testing.T) {
	ahead, behind := number(day(1898, 12, 31)), number(day(2101, 1, 1))
	for _, n := range append([]int{ahead, behind, ahead - 1000, behind + 1000}, far...) {
		if y, m, d, e := Date(n); y != 0 || m != 0 || d != 0 || e != api.ErrRange {
			t.Errorf("Date(%d): %d %d %d %v", n, y, m, d, e)
		}
	}
}

// P1.3

func TestWeekday(t *testing.T) {
	if got := Weekday(0); got != 4 {
		t.Errorf("Weekday(0): %d, not a Thursday", got)
	}
	for n := -30000; n <= 50000; n++ {
		if got, want := Weekday(n), int(day(1970, 1, 1+n).Weekday()); got != want {
			t.Fatalf("Weekday(%d): %d, want %d", n, got, want)
		}
	}
}

func TestWeekdayFarOut(t *testing.T) {
	const most = 1 << 40 // 7 leaves 2 of it
	for _, c := range []struct{ n, want int }{{most, 6}, {most - 1, 5}, {-most, 2}, {-most + 1, 3}} {
		if got := Weekday(c.n); got != c.want {
			t.Errorf("Weekday(%d): %d, want %d", c.n, got, c.want)
		}
	}
	for _, n := range far { // nothing is promised of the furthest ones, but that the call ends
		Weekday(n)
	}
}

// P1.4

func TestCheckDay(t *testing.T) {
	for kind := -1; kind <= 6; kind++ {
		for w := -2; w <= 9; w++ {
			for n := -2; n <= 34; n++ {
				d := api.Day{Kind: kind, W: w, N: n}
				if got, want := CheckDay(d), dayRefused(d); got != want {
					t.Errorf("CheckDay(%v): %v, want %v", d, got, want)
				}
			}
		}
	}
}

// dayRefused: the promise, kind by kind.
func dayRefused(d api.Day) api.Errno {
	weekday, monthDay := 0 <= d.W && d.W <= 6, 1 <= d.N && d.N <= 31
	switch {
	case d.Kind < 1 || d.Kind > 4:
		return api.ErrKind
	case d.Kind == 1 && d.W == 0 && monthDay,
		d.Kind == 2 && weekday && d.N == 0,
		d.Kind >= 3 && weekday && monthDay:
		return api.OK
	}
	return api.ErrRange
}

func TestCheckDayFarOut(t *testing.T) {
	for _, n := range far {
		if e := CheckDay(api.Day{Kind: n, W: n, N: n}); e != api.ErrKind {
			t.Errorf("kind %d: %v", n, e)
		}
		for kind := api.On; kind <= api.Before; kind++ {
			if e := CheckDay(api.Day{Kind: kind, N: n}); e != api.ErrRange {
				t.Errorf("kind %d, N %d: %v", kind, n, e)
			}
			if e := CheckDay(api.Day{Kind: kind, W: n, N: 1}); e != api.ErrRange {
				t.Errorf("kind %d, W %d: %v", kind, n, e)
			}
		}
	}
}

// P1.5

// walk from a day on, by steps, up to a weekday.
func walk(t time.Time, w, step int) int {
	for int(t.Weekday()) != w {
		t = t.AddDate(0, 0, step)
	}
	return number(t)
}

func checkFind(t *testing.T, y, m int, d api.Day, want int) {
	t.Helper()
	if got, e := Find(y, m, d); got != want || e != api.OK {
		t.Fatalf("Find(%d, %d, %v): %d %v, want %d", y, m, d, got, e, want)
	}
}

func TestFindEachDay(t *testing.T) {
	eachMonth(func(y, m int) {
		last := day(y, m+1, 0)
		for n := 1; n <= last.Day(); n++ {
			checkFind(t, y, m, api.Day{Kind: api.On, N: n}, number(day(y, m, n)))
		}
		for w := range 7 {
			checkFind(t, y, m, api.Day{Kind: api.Last, W: w}, walk(last, w, -1))
			for _, n := range []int{1, 2, 7, 8, 15, 22, 28, last.Day()} {
				checkFind(t, y, m, api.Day{Kind: api.After, W: w, N: n}, walk(day(y, m, n), w, 1))
				checkFind(t, y, m, api.Day{Kind: api.Before, W: w, N: n}, walk(day(y, m, n), w, -1))
			}
		}
	})
}

func TestFindInOtherMonths(t *testing.T) {
	// The last day of 2100 is a Friday, the first one of 1899 a Sunday: both lead out of the years that Number takes.
	checkFind(t, 2100, 12, api.Day{Kind: api.After, W: 4, N: 31}, 47846+6)
	checkFind(t, 1899, 1, api.Day{Kind: api.Before, W: 1, N: 1}, -25932-6)
	// The first day of March 2000 was a Wednesday, and the one ahead of it the 29th of February.
	checkFind(t, 2000, 3, api.Day{Kind: api.Before, W: 2, N: 1}, 11016)
	checkFind(t, 2000, 2, api.Day{Kind: api.After, W: 3, N: 29}, 11017)
}

func TestFindRefuses(t *testing.T) {
	for _, c := range wrongMonths() {
		for kind := api.On; kind <= api.Before; kind++ {
			d := api.Day{Kind: kind, N: 1}
			if kind == api.Last {
				d.N = 0
			}
			if got, e := Find(c[0], c[1], d); got != 0 || e != api.ErrRange {
				t.Errorf("Find(%d, %d, %v): %d %v", c[0], c[1], d, got, e)
			}
		}
		if got, e := Find(c[0], c[1], api.Day{Kind: 5}); got != 0 || e != api.ErrKind { // the day is looked at first
			t.Errorf("Find(%d, %d) of no kind: %d %v", c[0], c[1], got, e)
		}
	}
	eachMonth(func(y, m int) {
		for _, kind := range []int{api.On, api.After, api.Before} {
			d := api.Day{Kind: kind, N: day(y, m+1, 0).Day() + 1}
			if got, e := Find(y, m, d); got != 0 || e != api.ErrRange {
				t.Errorf("Find(%d, %d, %v): %d %v", y, m, d, got, e)
			}
		}
	})
	for _, d := range []api.Day{{Kind: api.On, N: 1, W: 1}, {Kind: api.Last, N: 1}, {Kind: api.After, N: 0}, {Kind: api.Before, N: 1, W: 7}} {
		if got, e := Find(2000, 1, d); got != 0 || e != api.ErrRange {
			t.Errorf("Find(2000, 1, %v): %d %v", d, got, e)
		}
	}
}

// P1.6

var firstDay = api.Day{Kind: api.On, N: 1}

func TestCheckMoment(t *testing.T) {
	for month := 1; month <= 12; month++ {
		for clock := api.Wall; clock <= api.World; clock++ {
			for _, at := range []int{0, 1, 86400, api.MaxTime - 1, api.MaxTime} {
				m := api.Moment{Month: month, Day: firstDay, Time: at, Clock: clock}
				if e := CheckMoment(m); e != api.OK {
					t.Errorf("CheckMoment(%v): %v", m, e)
				}
			}
		}
	}
	// Whether a month has such a day hangs on the year: a moment may be that is found in no year.
	if e := CheckMoment(api.Moment{Month: 2, Day: api.Day{Kind: api.On, N: 31}}); e != api.OK {
		t.Errorf("the 31st of February: %v", e)
	}
}

// wrongMoments, and why.
func wrongMoments() map[api.Moment]api.Errno {
	noDay, wrongDay := api.Day{}, api.Day{Kind: api.On, N: 32}
	l := map[api.Moment]api.Errno{
		{}:         api.ErrKind,
		{Month: 1}: api.ErrKind,
		{Month: 0, Day: noDay, Time: -1, Clock: 3}:               api.ErrKind,
		{Month: 1, Day: wrongDay, Clock: 3}:                      api.ErrRange, // the day ahead of the clock
		{Month: 1, Day: firstDay, Clock: 3}:                      api.ErrKind,
		{Month: 1, Day: firstDay, Clock: -1}:                     api.ErrKind,
		{Month: 13, Day: firstDay, Clock: 3}:                     api.ErrKind, // the clock ahead of the month
		{Month: 1, Day: firstDay, Time: -1, Clock: -1}:           api.ErrKind, // .. and of the time
		{Month: 0, Day: firstDay}:                                api.ErrRange,
		{Month: 13, Day: firstDay}:                               api.ErrRange,
		{Month: 1, Day: firstDay, Time: -1}:                      api.ErrRange,
		{Month: 1, Day: firstDay, Time: api.MaxTime + 1}:         api.ErrRange,
		{Month: 1, Day: api.Day{Kind: api.Last, N: 1}, Clock: 1}: api.ErrRange,
	}
	for _, n := range far {
		l[api.Moment{Month: n, Day: firstDay}] = api.ErrRange
		l[api.Moment{Month: 1, Day: firstDay, Time: n}] = api.ErrRange
		l[api.Moment{Month: 1, Day: firstDay, Clock: n}] = api.ErrKind
	}
	return l
}

func TestCheckMomentRefuses(t *testing.T) {
	for m, want := range wrongMoments() {
		if e := CheckMoment(m); e != want {
			t.Errorf("CheckMoment(%v): %v, want %v", m, e, want)
		}
	}
}

func TestInstantByEachClock(t *testing.T) {
	eachMonth(func(y, m int) {
		begin := int(day(y, m, 1).Unix())
		for _, c := range []struct{ at, offset, save int }{{0, 0, 0}, {7200, 3600, 1800}, {api.MaxTime, -api.MaxOffset, api.MaxOffset}, {5, api.MaxOffset, -api.MaxOffset}} {
			for clock, want := range []int{begin + c.at - c.offset - c.save, begin + c.at - c.offset, begin + c.at} {
				at := api.Moment{Month: m, Day: firstDay, Time: c.at, Clock: clock}
				if got, e := Instant(y, at, c.offset, c.save); got != want || e != api.OK {
					t.Fatalf("Instant(%d, %v, %d, %d): %d %v, want %d", y, at, c.offset, c.save, got, e, want)
				}
			}
		}
	})
}

func TestInstantOfFoundDay(t *testing.T) {
	m := api.Moment{Month: 3, Day: api.Day{Kind: api.Last}, Time: 3600, Clock: api.World}
	if got, e := Instant(2000, m, 3600, 0); got != 954032400 || e != api.OK {
		t.Errorf("%d %v", got, e)
	}
}

func TestInstantRefuses(t *testing.T) {
	for m, want := range wrongMoments() {
		// What is wrong with the moment goes ahead of what is wrong with the offset and the year.
		for _, y := range []int{2000, 2101} {
			for _, offset := range []int{0, api.MaxOffset + 1} {
				if got, e := Instant(y, m, offset, 0); got != 0 || e != want {
					t.Errorf("Instant(%d, %v, %d, 0): %d %v, want %v", y, m, offset, got, e, want)
				}
			}
		}
	}
	for clock := api.Wall; clock <= api.World; clock++ { // offsets are looked at even where they do not count
		m := api.Moment{Month: 1, Day: firstDay, Clock: clock}
		for _, n := range append([]int{api.MaxOffset + 1, -api.MaxOffset - 1}, far...) {
			if got, e := Instant(2000, m, n, 0); got != 0 || e != api.ErrRange {
				t.Errorf("offset %d: %d %v", n, got, e)
			}
			if got, e := Instant(2000, m, 0, n); got != 0 || e != api.ErrRange {
				t.Errorf("save %d: %d %v", n, got, e)
			}
		}
		for _, y := range append([]int{1898, 2101}, far...) {
			if got, e := Instant(y, m, 0, 0); got != 0 || e != api.ErrRange {
				t.Errorf("year %d: %d %v", y, got, e)
			}
		}
	}
	leapDay := api.Moment{Month: 2, Day: api.Day{Kind: api.On, N: 29}}
	if got, e := Instant(2001, leapDay, 0, 0); got != 0 || e != api.ErrRange {
		t.Errorf("the 29th of February 2001: %d %v", got, e)
	}
}

// P1.7

func TestWindow(t *testing.T) {
	first, behind := Window()
	if first != -2208988800 || behind != 4102444800 {
		t.Errorf("%d %d", first, behind)
	}
	if first != int(day(1900, 1, 1).Unix()) || behind != int(day(2100, 1, 1).Unix()) {
		t.Errorf("%d %d: not the years' beginnings", first, behind)
	}
}
