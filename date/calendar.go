package date

const daySeconds = 24 * 60 * 60

// What stands where in parts.
const (
	year = iota
	month
	day
	hour
	minute
	second
)

// parts are a moment's, as a calendar and a clock tell it: months count from 0 on, days from 1 on.
type parts [6]int

var lengths = [12]int{31, 28, 31, 30, 31, 30, 31, 31, 30, 31, 30, 31}

// calendar are the parts of a moment.
func calendar(at int) parts {
	days, rest := at/daySeconds, at%daySeconds
	// No year has more than 366 days: this one isn't behind the moment's.
	y := 1970 + days/366
	for newYear(y+1) <= days {
		y++
	}
	days -= newYear(y)
	m := 0
	for days >= monthDays(y, m) {
		days -= monthDays(y, m)
		m++
	}
	return parts{year: y, month: m, day: days + 1, hour: rest / 3600, minute: rest / 60 % 60, second: rest % 60}
}

// moment is where parts are: calendar's other way, also of parts that no calendar has.
func (p parts) moment() int {
	days := newYear(p[year]) + p[day] - 1
	for m := range p[month] {
		days += monthDays(p[year], m)
	}
	return days*daySeconds + p[hour]*3600 + p[minute]*60 + p[second]
}

// newYear is how many days there are from 1970-01-01 to a year's first one.
func newYear(y int) int {
	// 1969, 1901 and 1601 stand behind years that 4, 100 and 400 divide: what is gained is the leap days between.
	return 365*(y-1970) + (y-1969)/4 - (y-1901)/100 + (y-1601)/400
}

func monthDays(y, m int) int {
	if m == 1 && y%4 == 0 && (y%100 != 0 || y%400 == 0) {
		return 29
	}
	return lengths[m]
}

// weekday is a moment's, from Sunday on; 1970-01-01 was a Thursday.
func weekday(at int) int {
	return (at/daySeconds + 4) % 7
}
