package stamp

import "voyage/api"

const (
	firstYear = -999999
	lastYear  = 999999

	february   = 2
	monthCount = 12

	cycleYears = 400 // the leap years come again behind as many
	cycleDays  = 146097

	daysTo1970 = 719162 // from the beginning of the year 1 on
)

// Days tells how many days a day lies behind 1970-01-01: P6.6.
func Days(year, month, day int) (int, error) {
	if year < firstYear || year > lastYear || month < 1 || month > monthCount || day < 1 || day > monthDays(year, month) {
		return 0, api.ErrTime
	}
	days := daysToYear(year)
	for m := 1; m < month; m++ {
		days += monthDays(year, m)
	}
	return days + day - 1, nil
}

// Date tells the day that lies so many days behind 1970-01-01: P6.6.
func Date(days int) (year, month, day int, err error) {
	if days < daysToYear(firstYear) || days >= daysToYear(lastYear+1) {
		return 0, 0, 0, api.ErrTime
	}
	year = yearOf(days)
	month, day = 1, days-daysToYear(year)+1
	for day > monthDays(year, month) {
		day -= monthDays(year, month)
		month++
	}
	return year, month, day, nil
}

// daysToYear tells how many days the beginning of a year lies behind 1970-01-01.
func daysToYear(year int) int {
	before := year - 1 // each leap year up to this one, from the year 1 on, has brought a day more
	fours, _ := divide(before, 4)
	hundreds, _ := divide(before, 100)
	cycles, _ := divide(before, cycleYears)
	return before*365 + fours - hundreds + cycles - daysTo1970
}

// yearOf tells in which year a day lies. By the mean length of years it is found but for a few days, so that it may be the one beside.
func yearOf(days int) int {
	years, _ := divide(days*cycleYears, cycleDays)
	year := 1970 + years
	for daysToYear(year) > days {
		year--
	}
	for daysToYear(year+1) <= days {
		year++
	}
	return year
}

// monthDays tells how many days a month has.
func monthDays(year, month int) int {
	days := [monthCount]int{31, 28, 31, 30, 31, 30, 31, 31, 30, 31, 30, 31}
	if month == february && isLeap(year) {
		return days[month-1] + 1
	}
	return days[month-1]
}

func isLeap(year int) bool {
	return year%4 == 0 && year%100 != 0 || year%400 == 0
}
