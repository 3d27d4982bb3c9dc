// Package civil is layer 1: days of the calendar. See shared/doc/01-civil.md.
package civil

import (
	"math"

	"vespers/api"
)

// Leap tells whether a year is a leap year.
func Leap(year int) bool {
	return year%4 == 0 && (year%100 != 0 || year%400 == 0)
}

// Length is a month's length; 0, if there is none such.
func Length(year, month int) int {
	switch month {
	case 1, 3, 5, 7, 8, 10, 12:
		return 31
	case 4, 6, 9, 11:
		return 30
	case 2:
		if Leap(year) {
			return 29
		}
		return 28
	}
	return 0
}

// May tells whether a date may be.
func May(d api.Date) bool {
	return d.Year >= api.FirstYear && d.Year <= api.LastYear && d.Day >= 1 && d.Day <= Length(d.Year, d.Month)
}

// Number is a date's number: how many days there are from the first of January 1900 to it.
func Number(d api.Date) (int, bool) {
	if !May(d) {
		return 0, false
	}
	return yearStart(d.Year) + dayOfYear(d) - 1, true
}

// Date is the date of a number.
func Date(n int) (api.Date, bool) {
	if n < 0 || n >= api.Days {
		return api.Date{}, false
	}
	// No year has more than 366 days, so this guess is never too late.
	year := api.FirstYear + n/366
	for yearStart(year+1) <= n {
		year++
	}
	left := n - yearStart(year)
	month := 1
	for left >= Length(year, month) {
		left -= Length(year, month)
		month++
	}
	return api.Date{Year: year, Month: month, Day: left + 1}, true
}

// Weekday is the weekday of a day, Monday being 0, also of days below 0.
func Weekday(n int) int {
	// What is left of a division has the sign of n, so it is lifted once more.
	return (n%7 + 7) % 7
}

// Ordinal is which day of its year a date is, from 1 on; 0, if it may not be.
func Ordinal(d api.Date) int {
	if !May(d) {
		return 0
	}
	return dayOfYear(d)
}

// Nth is the n-th such weekday of a month, from its beginning, or, with n below 0, from its end.
func Nth(year, month, weekday, n int) (api.Date, bool) {
	first, ok := Number(api.Date{Year: year, Month: month, Day: 1})
	// No weekday is in a month more than five times; a greater n could wrap round below.
	if !ok || weekday < 0 || weekday > 6 || n < -5 || n > 5 || n == 0 {
		return api.Date{}, false
	}
	day := 1 + Weekday(weekday-Weekday(first)) + 7*(n-1)
	if n < 0 {
		length := Length(year, month)
		last := Weekday(first + length - 1)
		day = length - Weekday(last-weekday) + 7*(n+1)
	}
	d := api.Date{Year: year, Month: month, Day: day}
	if !May(d) {
		return api.Date{}, false
	}
	return d, true
}

// Add is a sum; false, if it is no int64.
func Add(a, b int64) (int64, bool) {
	if b > 0 && a > math.MaxInt64-b || b < 0 && a < math.MinInt64-b {
		return 0, false
	}
	return a + b, true
}

// Mul is a product; false, if it is no int64.
func Mul(a, b int64) (int64, bool) {
	if b == 0 {
		return 0, true
	}
	p := a * b
	// Dividing finds every wrap but that of the least number by -1, whose quotient wraps likewise.
	if p/b != a || a == math.MinInt64 && b == -1 {
		return 0, false
	}
	return p, true
}

// yearStart is the number of a year's first day; also of the year behind the last one.
func yearStart(year int) int {
	return (year-api.FirstYear)*365 + leapsThrough(year-1) - leapsThrough(api.FirstYear-1)
}

// leapsThrough counts leap years from the year 1 on, as if the calendar had always been this one.
func leapsThrough(year int) int {
	return year/4 - year/100 + year/400
}

// dayOfYear is the ordinal of a date that may be.
func dayOfYear(d api.Date) int {
	n := d.Day
	for month := 1; month < d.Month; month++ {
		n += Length(d.Year, month)
	}
	return n
}
