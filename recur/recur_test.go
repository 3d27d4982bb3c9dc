package recur_test

import (
	"iter"
	"math"
	"math/rand"
	"reflect"
	"slices"
	"sync"
	"testing"
	"time"

	"vespers/api"
	"vespers/clock"
	"vespers/recur"
	"vespers/rule"
)

// The tests hold the calls against the chapter's words, taken one by one: days are those of the library's calendar, what is the n-th of a month or of a period is counted, and the times are looked for among all days.

// dayByWords is a day of the calendar: its place in its month, its weekday and that one's place in the month, each from the beginning and, below 0, from the end.
type dayByWords struct {
	year, month, weekday int
	places               [2]int
	ofWeekday            [2]int
}

var epoch = time.Date(1900, time.January, 1, 0, 0, 0, 0, time.UTC)

// calendar are all days, counted month by month.
var calendar = sync.OnceValue(func() []dayByWords {
	var all, month []dayByWords
	for at := epoch; at.Year() <= 2200; at = at.AddDate(0, 0, 1) {
		month = append(month, dayByWords{year: at.Year(), month: int(at.Month()), weekday: (int(at.Weekday()) + 6) % 7})
		if at.AddDate(0, 0, 1).Month() != at.Month() {
			all = append(all, counted(month)...)
			month = nil
		}
	}
	return all
})

// counted are a month's days with their places.
func counted(month []dayByWords) []dayByWords {
	for i := range month {
		for j := range month {
			same := month[i].weekday == month[j].weekday
			if j <= i {
				month[i].places[0]++
				if same {
					month[i].ofWeekday[0]++
				}
			}
			if j >= i {
				month[i].places[1]--
				if same {
					month[i].ofWeekday[1]--
				}
			}
		}
	}
	return month
}

// periodByWords tells how many periods there are from some one on to that of a day.
func periodByWords(r api.Rule, day int) int {
	d := calendar()[day]
	switch r.Freq {
	case 1:
		return day
	case 2:
		begin := day
		for weekday := d.weekday; weekday != r.Start; weekday = (weekday + 6) % 7 {
			begin--
		}
		// All weeks of a rule begin on one weekday; what is added makes a number of them of each.
		return (begin + (7-r.Start)%7) / 7
	case 3:
		return d.year*12 + d.month
	}
	return d.year
}

// isDayByWords tells whether a day is as ByMonth, ByMonthDay and ByDay, or else the start, say.
func isDayByWords(r api.Rule, start, day int) bool {
	d, s := calendar()[day], calendar()[start]
	has := func(row []int, n ...int) bool {
		for _, x := range row {
			if slices.Contains(n, x) {
				return true
			}
		}
		return false
	}
	if len(r.ByMonth) > 0 && !has(r.ByMonth, d.month) {
		return false
	}
	if len(r.ByMonthDay) > 0 && !has(r.ByMonthDay, d.places[0], d.places[1]) {
		return false
	}
	onOne := len(r.ByDay) == 0
	for _, x := range r.ByDay {
		onOne = onOne || x.Day == d.weekday && (x.N == 0 || x.N == d.ofWeekday[0] || x.N == d.ofWeekday[1])
	}
	if !onOne {
		return false
	}
	if r.Freq == 2 && len(r.ByDay) == 0 && d.weekday != s.weekday {
		return false
	}
	if (r.Freq == 3 || r.Freq == 4) && len(r.ByMonthDay) == 0 && len(r.ByDay) == 0 && d.places[0] != s.places[0] {
		return false
	}
	return r.Freq != 4 || len(r.ByMonth)+len(r.ByMonthDay)+len(r.ByDay) > 0 || d.month == s.month
}

// keptByWords are those of a period's days that BySetPos keeps.
func keptByWords(r api.Rule, days []int) []int {
	if len(r.BySetPos) == 0 {
		return days
	}
	var kept []int
	for i, day := range days {
		for _, n := range r.BySetPos {
			if n > 0 && n-1 == i || n < 0 && len(days)+n == i {
				kept = append(kept, day)
				break
			}
		}
	}
	return kept
}

// byWords are the times of a rule that may be, from a start that may be, that are on the days ahead of one.
func byWords(r api.Rule, start int64, end int) []int64 {
	first := int(start / 1440)
	from := first
	for from > 0 && periodByWords(r, from-1) == periodByWords(r, first) {
		from--
	}
	var row []int64
	for from < min(end, 109938) {
		// A period's days are looked at to its end, also behind the last one that is asked for.
		period := periodByWords(r, from)
		var days []int
		for ; from < 109938 && periodByWords(r, from) == period; from++ {
			if (period-periodByWords(r, first))%r.Interval == 0 && isDayByWords(r, first, from) {
				days = append(days, from)
			}
		}
		for _, day := range keptByWords(r, days) {
			at := int64(day)*1440 + start%1440
			if at < start || day >= end || r.Until >= 0 && at > r.Until || r.Count > 0 && len(row) == r.Count {
				continue
			}
			row = append(row, at)
		}
	}
	return row
}

// upTo are the times ahead of a minute.
func upTo(times iter.Seq[int64], end int64) []int64 {
	var row []int64
	for at := range times {
		if at >= end {
			break
		}
		row = append(row, at)
	}
	return row
}

// cut are those of a row from one minute on, ahead of another one.
func cut(row []int64, from, to int64) []int64 {
	var l []int64
	for _, at := range row {
		if at >= from && at < to {
			l = append(l, at)
		}
	}
	return l
}

// isBetween asks for what Between says with most of all kinds, of a window in which such times are.
func isBetween(t *testing.T, r api.Rule, start, from, to int64, want []int64) {
	t.Helper()
	for _, most := range []int{math.MinInt, -1, 0, 1, len(want) - 1, len(want), len(want) + 1, math.MaxInt} {
		got, ok := recur.Between(r, start, from, to, most)
		if len(want) > max(most, 0) {
			if ok || got != nil {
				t.Fatalf("Between(%+v, %d, %d, %d, %d): %d times, %v; there are %d", r, start, from, to, most, len(got), ok, len(want))
			}
		} else if !ok || !slices.Equal(got, want) {
			t.Fatalf("Between(%+v, %d, %d, %d, %d): %v, %v, not %v", r, start, from, to, most, got, ok, want)
		}
	}
}

// isCourse asks for what the chapter says of a rule and a start, on so many days from the start on, with some windows among them.
func isCourse(t *testing.T, random *rand.Rand, r api.Rule, start int64, days int) {
	t.Helper()
	if !rule.May(r) {
		t.Fatalf("%+v may not be", r)
	}
	end := min(int(start/1440)+days, 109938)
	want := byWords(r, start, end)
	if got := upTo(recur.Times(r, start), int64(end)*1440); !slices.Equal(got, want) {
		t.Fatalf("Times(%+v, %d): %v, not %v", r, start, got, want)
	}
	isBetween(t, r, start, 0, int64(end)*1440, want)
	for range 4 {
		from := start - 2000 + random.Int63n(int64(days)*1440+2000)
		to := min(from+random.Int63n(200*1440), int64(end)*1440)
		if len(want) > 0 && random.Intn(2) == 0 {
			from = want[random.Intn(len(want))] + int64(random.Intn(3)-1)
		}
		if len(want) > 0 && random.Intn(2) == 0 {
			to = min(want[random.Intn(len(want))]+int64(random.Intn(3)-1), int64(end)*1440)
		}
		isBetween(t, r, start, from, to, cut(want, from, to))
	}
	for range 4 {
		at := start - 3*1440 + 1440*random.Int63n(int64(end)-start/1440+3)
		if len(want) > 0 && random.Intn(2) == 0 {
			at = want[random.Intn(len(want))]
		}
		for _, at := range []int64{at - 1440, at - 1, at, at + 1, at + 1440} {
			if at < int64(end)*1440 && recur.Has(r, start, at) != slices.Contains(want, at) {
				t.Fatalf("Has(%+v, %d, %d): not %v", r, start, at, slices.Contains(want, at))
			}
		}
	}
}

// read is the rule of a text.
func read(t *testing.T, text string) api.Rule {
	t.Helper()
	r, ok := rule.Read(text)
	if !ok {
		t.Fatalf("%q is no rule", text)
	}
	return r
}

// stamp is the stamp of a text.
func stamp(t *testing.T, text string) int64 {
	t.Helper()
	n, ok := clock.ReadStamp(text)
	if !ok {
		t.Fatalf("%q is no stamp", text)
	}
	return n
}

func TestP10_1_ExamplesOfTheChapter(t *testing.T) {
	r, start := read(t, "FREQ=MONTHLY;BYMONTHDAY=31"), stamp(t, "2026-01-31T10:00")
	row, ok := recur.Between(r, start, stamp(t, "2026-02-01T00:00"), stamp(t, "2026-03-01T00:00"), 10)
	if len(row) != 0 || !ok {
		t.Errorf("%v, %v", row, ok)
	}
	row, ok = recur.Between(r, start, start, stamp(t, "2026-06-01T00:00"), 3)
	if !slices.Equal(row, []int64{start, stamp(t, "2026-03-31T10:00"), stamp(t, "2026-05-31T10:00")}) || !ok {
		t.Errorf("%v, %v", row, ok)
	}
}

// TestP10_1_RulesAndTheirTimes: of each rule the first times; all of them, if last is set.
func TestP10_1_RulesAndTheirTimes(t *testing.T) {
	for _, x := range []struct {
		text, start string
		last        bool
		want        []string
	}{
		// The start's minute of the day, at its edges.
		{"FREQ=DAILY", "1900-01-01T00:00", false, []string{"1900-01-01T00:00", "1900-01-02T00:00"}},
		{"FREQ=DAILY", "1999-12-30T23:59", false, []string{"1999-12-30T23:59", "1999-12-31T23:59", "2000-01-01T23:59"}},
		{"FREQ=DAILY", "2200-12-31T23:59", true, []string{"2200-12-31T23:59"}},
		{"FREQ=YEARLY", "2200-01-01T00:00", true, []string{"2200-01-01T00:00"}},
		// Periods are counted from that of the start on, whether it has times or not.
		{"FREQ=DAILY;INTERVAL=3", "2026-02-27T08:00", false, []string{"2026-02-27T08:00", "2026-03-02T08:00", "2026-03-05T08:00"}},
		{"FREQ=DAILY;INTERVAL=999", "2198-07-10T08:00", true, []string{"2198-07-10T08:00"}},
		{"FREQ=WEEKLY;INTERVAL=2;BYDAY=MO", "2026-02-26T08:00", false, []string{"2026-03-09T08:00", "2026-03-23T08:00"}},
		{"FREQ=WEEKLY;INTERVAL=2;BYDAY=MO;WKST=FR", "2026-02-26T08:00", false, []string{"2026-03-09T08:00", "2026-03-23T08:00"}},
		{"FREQ=WEEKLY;INTERVAL=2;BYDAY=MO;WKST=TH", "2026-02-26T08:00", false, []string{"2026-03-02T08:00", "2026-03-16T08:00"}},
		{"FREQ=MONTHLY;INTERVAL=2;BYMONTHDAY=1", "2026-02-26T08:00", false, []string{"2026-04-01T08:00", "2026-06-01T08:00"}},
		{"FREQ=MONTHLY;INTERVAL=13", "2025-12-31T08:00", false, []string{"2025-12-31T08:00", "2027-01-31T08:00", "2029-03-31T08:00"}},
		{"FREQ=MONTHLY;INTERVAL=12", "2096-02-29T08:00", false, []string{"2096-02-29T08:00", "2104-02-29T08:00"}},
		{"FREQ=YEARLY;INTERVAL=100;BYMONTH=1;BYMONTHDAY=1", "1900-06-01T08:00", true, []string{"2000-01-01T08:00", "2100-01-01T08:00", "2200-01-01T08:00"}},
		{"FREQ=YEARLY;INTERVAL=999", "1900-06-01T08:00", true, []string{"1900-06-01T08:00"}},
		// The start is a time just if the rule says so.
		{"FREQ=DAILY;BYDAY=SA,SU", "2026-11-19T08:00", false, []string{"2026-11-21T08:00", "2026-11-22T08:00", "2026-11-28T08:00"}},
		{"FREQ=MONTHLY;COUNT=3;BYMONTHDAY=1,15", "2026-11-10T08:00", true, []string{"2026-11-15T08:00", "2026-12-01T08:00", "2026-12-15T08:00"}},
		// Days of months, from the beginning and from the end.
		{"FREQ=DAILY;BYMONTHDAY=-1", "2027-12-20T08:00", false, []string{"2027-12-31T08:00", "2028-01-31T08:00", "2028-02-29T08:00", "2028-03-31T08:00", "2028-04-30T08:00"}},
		{"FREQ=DAILY;BYMONTHDAY=-31", "2026-01-02T08:00", false, []string{"2026-03-01T08:00", "2026-05-01T08:00", "2026-07-01T08:00", "2026-08-01T08:00"}},
		{"FREQ=MONTHLY;BYMONTHDAY=-29", "2026-01-02T08:00", false, []string{"2026-01-03T08:00", "2026-03-03T08:00", "2026-04-02T08:00"}},
		{"FREQ=MONTHLY;BYMONTHDAY=-1,28", "2026-02-01T08:00", false, []string{"2026-02-28T08:00", "2026-03-28T08:00", "2026-03-31T08:00"}},
		{"FREQ=YEARLY;BYMONTHDAY=29", "2027-12-30T08:00", false, []string{"2028-01-29T08:00", "2028-02-29T08:00", "2028-03-29T08:00"}},
		// Months alone: the rest is the start's.
		{"FREQ=DAILY;INTERVAL=15;BYMONTH=2", "2026-01-20T08:00", false, []string{"2026-02-04T08:00", "2026-02-19T08:00", "2027-02-14T08:00"}},
		{"FREQ=WEEKLY;BYMONTH=2", "2026-01-20T08:00", false, []string{"2026-02-03T08:00", "2026-02-10T08:00", "2026-02-17T08:00", "2026-02-24T08:00", "2027-02-02T08:00"}},
		{"FREQ=MONTHLY;BYMONTH=2,3", "2026-01-30T08:00", false, []string{"2026-03-30T08:00", "2027-03-30T08:00"}},
		{"FREQ=YEARLY;BYMONTH=2,3", "2026-01-29T08:00", false, []string{"2026-03-29T08:00", "2027-03-29T08:00", "2028-02-29T08:00"}},
		// Nothing is said: the start's weekday, number, month.
		{"FREQ=WEEKLY", "2026-11-19T08:00", false, []string{"2026-11-19T08:00", "2026-11-26T08:00"}},
		{"FREQ=MONTHLY", "2026-11-30T08:00", false, []string{"2026-11-30T08:00", "2026-12-30T08:00", "2027-01-30T08:00", "2027-03-30T08:00"}},
		{"FREQ=YEARLY", "2092-02-29T08:00", false, []string{"2092-02-29T08:00", "2096-02-29T08:00", "2104-02-29T08:00"}},
		{"FREQ=YEARLY", "2196-02-29T08:00", true, []string{"2196-02-29T08:00"}},
		// Weekdays: each, or the n-th one of the month, also with Yearly.
		{"FREQ=MONTHLY;BYDAY=-1FR", "2026-11-19T08:00", false, []string{"2026-11-27T08:00", "2026-12-25T08:00", "2027-01-29T08:00"}},
		{"FREQ=MONTHLY;BYDAY=5SU", "2026-11-01T08:00", false, []string{"2026-11-29T08:00", "2027-01-31T08:00", "2027-05-30T08:00"}},
		{"FREQ=MONTHLY;BYDAY=-5SU", "2026-11-01T08:00", false, []string{"2026-11-01T08:00", "2027-01-03T08:00", "2027-05-02T08:00"}},
		{"FREQ=MONTHLY;BYDAY=-1MO,TU,2MO", "2026-11-01T08:00", false, []string{"2026-11-03T08:00", "2026-11-09T08:00", "2026-11-10T08:00", "2026-11-17T08:00", "2026-11-24T08:00", "2026-11-30T08:00"}},
		{"FREQ=YEARLY;BYDAY=TH", "2026-12-19T08:00", false, []string{"2026-12-24T08:00", "2026-12-31T08:00", "2027-01-07T08:00"}},
		{"FREQ=YEARLY;BYMONTH=3,10;BYDAY=-1SU", "2026-11-19T01:00", false, []string{"2027-03-28T01:00", "2027-10-31T01:00", "2028-03-26T01:00"}},
		{"FREQ=YEARLY;BYMONTHDAY=13;BYDAY=FR", "2026-01-01T08:00", false, []string{"2026-02-13T08:00", "2026-03-13T08:00", "2026-11-13T08:00", "2027-08-13T08:00"}},
		// BySetPos: of the whole period's days, those ahead of the start, too; of the calendar's alone.
		{"FREQ=DAILY;BYDAY=TH,FR;BYSETPOS=1", "2026-11-19T08:00", false, []string{"2026-11-19T08:00", "2026-11-20T08:00", "2026-11-26T08:00"}},
		{"FREQ=DAILY;BYDAY=TH,FR;BYSETPOS=-1", "2026-11-19T08:00", false, []string{"2026-11-19T08:00", "2026-11-20T08:00", "2026-11-26T08:00"}},
		{"FREQ=DAILY;BYDAY=TH,FR;BYSETPOS=-2,2", "2026-11-19T08:00", true, nil},
		{"FREQ=WEEKLY;BYDAY=MO,TH;BYSETPOS=1", "2026-11-19T08:00", false, []string{"2026-11-23T08:00", "2026-11-30T08:00"}},
		{"FREQ=WEEKLY;BYDAY=MO,TH;BYSETPOS=1;WKST=TU", "2026-11-19T08:00", false, []string{"2026-11-19T08:00", "2026-11-26T08:00"}},
		{"FREQ=WEEKLY;BYMONTH=12;BYDAY=MO,TH;BYSETPOS=1", "2026-11-26T08:00", false, []string{"2026-12-03T08:00", "2026-12-07T08:00", "2026-12-14T08:00"}},
		{"FREQ=WEEKLY;BYDAY=MO,SU;BYSETPOS=1;WKST=SU", "1900-01-01T08:00", false, []string{"1900-01-01T08:00", "1900-01-07T08:00", "1900-01-14T08:00"}},
		{"FREQ=WEEKLY;BYDAY=MO,TH;BYSETPOS=-1", "2200-12-20T08:00", true, []string{"2200-12-25T08:00", "2200-12-29T08:00"}},
		{"FREQ=MONTHLY;COUNT=3;BYDAY=MO,TU,WE,TH,FR;BYSETPOS=-1,1", "2026-11-03T08:00", true, []string{"2026-11-30T08:00", "2026-12-01T08:00", "2026-12-31T08:00"}},
		{"FREQ=MONTHLY;BYMONTHDAY=29,30,31;BYSETPOS=2", "2026-01-01T08:00", false, []string{"2026-01-30T08:00", "2026-03-30T08:00"}},
		{"FREQ=YEARLY;BYDAY=MO;BYSETPOS=20", "1997-05-19T09:00", false, []string{"1997-05-19T09:00", "1998-05-18T09:00", "1999-05-17T09:00"}},
		{"FREQ=YEARLY;BYMONTH=11;BYSETPOS=1", "2026-11-19T09:00", false, []string{"2026-11-19T09:00", "2027-11-19T09:00"}},
		{"FREQ=YEARLY;BYDAY=MO,TU,WE,TH,FR,SA,SU;BYSETPOS=366", "2026-01-01T09:00", false, []string{"2028-12-31T09:00", "2032-12-31T09:00"}},
		{"FREQ=YEARLY;BYDAY=MO,TU,WE,TH,FR,SA,SU;BYSETPOS=-366", "2026-01-01T09:00", false, []string{"2028-01-01T09:00", "2032-01-01T09:00"}},
		// Count and Until.
		{"FREQ=DAILY;COUNT=1", "2026-11-19T08:00", true, []string{"2026-11-19T08:00"}},
		{"FREQ=DAILY;COUNT=5000", "2200-12-30T08:00", true, []string{"2200-12-30T08:00", "2200-12-31T08:00"}},
		{"FREQ=DAILY;UNTIL=20261120T0800", "2026-11-19T08:00", true, []string{"2026-11-19T08:00", "2026-11-20T08:00"}},
		{"FREQ=DAILY;UNTIL=20261120T0759", "2026-11-19T08:00", true, []string{"2026-11-19T08:00"}},
		{"FREQ=DAILY;UNTIL=20261120T0801", "2026-11-19T08:00", true, []string{"2026-11-19T08:00", "2026-11-20T08:00"}},
		{"FREQ=DAILY;UNTIL=20261119T0800", "2026-11-19T08:00", true, []string{"2026-11-19T08:00"}},
		{"FREQ=DAILY;UNTIL=20261119T0759", "2026-11-19T08:00", true, nil},
		{"FREQ=DAILY;UNTIL=19000101T0000", "2026-11-19T08:00", true, nil},
		{"FREQ=DAILY;UNTIL=19000101T0000", "1900-01-01T00:00", true, []string{"1900-01-01T00:00"}},
		{"FREQ=DAILY;UNTIL=22001231T2359", "2200-12-31T23:59", true, []string{"2200-12-31T23:59"}},
		// There are no such days.
		{"FREQ=DAILY;BYMONTH=2;BYMONTHDAY=30", "1900-01-01T00:00", true, nil},
		{"FREQ=MONTHLY;BYMONTH=4;BYMONTHDAY=-31,31", "1900-01-01T00:00", true, nil},
		{"FREQ=YEARLY;BYMONTHDAY=1;BYSETPOS=13", "1900-01-01T00:00", true, nil},
		{"FREQ=YEARLY;INTERVAL=4;COUNT=5000;BYMONTH=2;BYMONTHDAY=29", "1901-01-01T00:00", true, nil},
	} {
		r, start := read(t, x.text), stamp(t, x.start)
		var got []string
		for at := range recur.Times(r, start) {
			if len(got) == len(x.want) && !x.last {
				break
			}
			s, _ := clock.Stamp(at)
			if got = append(got, s); len(got) > len(x.want) {
				break
			}
		}
		if !slices.Equal(got, x.want) {
			t.Errorf("%s from %s on: %v, not %v", x.text, x.start, got, x.want)
		}
		for _, s := range x.want {
			if !recur.Has(r, start, stamp(t, s)) {
				t.Errorf("%s from %s on: not at %s", x.text, x.start, s)
			}
		}
	}
}

var (
	weekdays   = []api.DayN{{Day: 0}, {Day: 1}, {Day: 2}, {Day: 3}, {Day: 4}, {Day: 5}, {Day: 6}}
	monthRows  = [][]int{nil, nil, {1}, {2}, {12}, {1, 12}, {6, 7, 11}, {2, 4}, {1, 2, 3, 4, 5, 6, 7, 8, 9, 10, 11, 12}}
	numberRows = [][]int{nil, nil, {1}, {31}, {30}, {29}, {28}, {-1}, {-31}, {-30}, {-29}, {-28}, {-3, 13}, {-1, 1}, {2, 3, 4, 5, 6, 7, 8}, {-7, -6, -5, -4, -3, -2, -1}}
	dayRows    = [][]api.DayN{nil, nil, weekdays[:1], weekdays[6:], weekdays[:5], weekdays[1:4], weekdays, {{Day: 1}, {Day: 3}}, {{Day: 0}, {Day: 6}}}
	nthRows    = [][]api.DayN{{{N: 1, Day: 0}}, {{N: 5, Day: 6}}, {{N: -1, Day: 4}}, {{N: -5, Day: 2}}, {{N: -2, Day: 1}, {Day: 5}, {N: 3, Day: 0}}, {{N: -1, Day: 6}, {N: 1, Day: 6}}, {{N: -4, Day: 0}, {N: 4, Day: 0}}}
	placeRows  = [][]int{nil, nil, nil, {1}, {-1}, {2}, {-2}, {-1, 1}, {3, 5}, {-5, -3}, {366}, {-366}, {365}, {-12, 12}, {-53, 53}}
	intervals  = []int{1, 1, 1, 2, 2, 3, 4, 5, 7, 12, 13, 30, 100, 999}
)

func oneOf[T any](random *rand.Rand, l []T) T { return l[random.Intn(len(l))] }

// someRule is one that may be, of rows at the edges.
func someRule(random *rand.Rand) api.Rule {
	r := api.Rule{Freq: 1 + random.Intn(4), Interval: oneOf(random, intervals), Until: -1, Start: random.Intn(7)}
	r.ByMonth = oneOf(random, monthRows)
	if r.Freq != api.Weekly {
		r.ByMonthDay = oneOf(random, numberRows)
	}
	r.ByDay = oneOf(random, dayRows)
	if random.Intn(2) == 0 && (r.Freq == api.Monthly || r.Freq == api.Yearly && len(r.ByMonth) > 0) {
		r.ByDay = oneOf(random, nthRows)
	}
	if len(r.ByMonth)+len(r.ByMonthDay)+len(r.ByDay) > 0 {
		r.BySetPos = oneOf(random, placeRows)
	}
	return r
}

// withEnd is a rule with a Count, or an Until some days behind a start, or, as it was, without an end.
func withEnd(random *rand.Rand, r api.Rule, start int64) api.Rule {
	switch random.Intn(4) {
	case 0:
		r.Count = 1 + random.Intn(60)
	case 1:
		r.Until = min(max(start-1440+1440*random.Int63n(2000)+int64(random.Intn(3)-1), 0), api.Minutes-1)
	}
	return r
}

// someStart is a stamp at or beside an edge: of the calendar, of a century, of a leap year's February, of a month, of any day.
func someStart(random *rand.Rand) int64 {
	day := int64(random.Intn(109938))
	switch random.Intn(6) {
	case 0:
		day = int64(random.Intn(14))
	case 1:
		day = 109937 - int64(random.Intn(800))
	case 2:
		day = oneOf(random, []int64{36521, 36522, 36523, 36524, 36525, 36583, 36584, 73108, 73047, 73106, 73107, 46080, 46111})
	case 3:
		for calendar()[day].places[1] != -1 {
			day++
		}
	}
	return day*1440 + oneOf(random, []int64{0, 1, 540, 720, 1438, 1439})
}

func TestP10_1_AgainstTheWords(t *testing.T) {
	random := rand.New(rand.NewSource(10))
	for range 3000 {
		start := someStart(random)
		isCourse(t, random, withEnd(random, someRule(random), start), start, 900+random.Intn(800))
	}
}

func TestP10_1_AgainstTheWordsOverLongTimes(t *testing.T) {
	random := rand.New(rand.NewSource(11))
	for range 120 {
		start := someStart(random)
		isCourse(t, random, withEnd(random, someRule(random), start), start, 109938)
	}
}

// TestP10_1_EachDayAsAStart: all days of some years, with rules that say nothing, or little.
func TestP10_1_EachDayAsAStart(t *testing.T) {
	random := rand.New(rand.NewSource(12))
	for _, first := range []int{0, 36158, 109938 - 500} {
		for day := first; day < first+500; day++ {
			for freq := 1; freq <= 4; freq++ {
				r := api.Rule{Freq: freq, Interval: 1 + day%3, Until: -1, Start: day % 7}
				isCourse(t, random, r, int64(day)*1440+600, 800)
			}
		}
	}
}

// TestP10_1_EachWeekBegin: with each weekday on which weeks begin, and from each day of two weeks at the calendar's beginning and its end.
func TestP10_1_EachWeekBegin(t *testing.T) {
	random := rand.New(rand.NewSource(13))
	for begin := range 7 {
		for _, first := range []int{0, 46000, 109938 - 14} {
			for day := first; day < first+14; day++ {
				for _, places := range [][]int{nil, {1}, {-1}, {2}, {-2}, {7}, {-7}} {
					for _, days := range [][]api.DayN{weekdays, weekdays[2:3], {{Day: 0}, {Day: 6}}} {
						r := api.Rule{Freq: 2, Interval: 1 + (day+begin)%2, Until: -1, ByDay: days, BySetPos: places, Start: begin}
						isCourse(t, random, r, int64(day)*1440, 40)
					}
				}
			}
		}
	}
}

// TestP10_1_Counts: each Count up to that of all times there are, and above.
func TestP10_1_Counts(t *testing.T) {
	for _, text := range []string{"FREQ=DAILY", "FREQ=WEEKLY;BYDAY=MO,WE,FR;WKST=WE", "FREQ=MONTHLY;BYDAY=-1FR,1MO", "FREQ=YEARLY;BYMONTH=2,5;BYMONTHDAY=-1,1", "FREQ=MONTHLY;BYDAY=TU,TH;BYSETPOS=-1,2,4"} {
		r, start := read(t, text), stamp(t, "2200-08-20T07:30")
		all := byWords(r, start, 109938)
		for r.Count = 1; r.Count <= len(all)+2; r.Count++ {
			want := all[:min(r.Count, len(all))]
			if got := upTo(recur.Times(r, start), api.Minutes); !slices.Equal(got, want) {
				t.Fatalf("%+v: %v, not %v", r, got, want)
			}
			// Also those that aren't in the window count.
			for i := range want {
				isBetween(t, r, start, want[i], api.Minutes, want[i:])
				isBetween(t, r, start, want[i]+1, api.Minutes, want[i+1:])
			}
			for i, at := range all {
				if recur.Has(r, start, at) != (i < r.Count) {
					t.Fatalf("Has(%+v, %d, %d): not %v", r, start, at, i < r.Count)
				}
			}
		}
	}
	r := api.Rule{Freq: 1, Interval: 1, Count: 5000, Until: -1}
	if got := upTo(recur.Times(r, 0), api.Minutes); len(got) != 5000 || got[4999] != 4999*1440 {
		t.Errorf("%d times with a Count of 5000", len(got))
	}
}

// TestP10_1_AllDays: all there are of the calendar, none of them twice.
func TestP10_1_AllDays(t *testing.T) {
	for _, r := range []api.Rule{
		{Freq: 1, Interval: 1, Until: -1},
		{Freq: 2, Interval: 1, Until: -1, ByDay: weekdays, Start: 3},
		{Freq: 3, Interval: 1, Until: -1, ByDay: weekdays},
		{Freq: 4, Interval: 1, Until: api.Minutes - 1, ByDay: weekdays},
	} {
		next := int64(1439)
		for at := range recur.Times(r, 1439) {
			if at != next {
				t.Fatalf("%+v: %d, not %d", r, at, next)
			}
			next += 1440
		}
		if next != api.Minutes+1439 {
			t.Errorf("%+v: %d minutes", r, next)
		}
	}
}

// TestP10_1_Windows: from and to at all edges, also out of time.
func TestP10_1_Windows(t *testing.T) {
	edges := []int64{math.MinInt64, math.MinInt64 + 1, -1440, -1, 0, 1, 540, 541, 1439, 1440, 1980, 1981, 4860, 4861, api.Minutes - 1440, api.Minutes - 900, api.Minutes - 899, api.Minutes - 1, api.Minutes, api.Minutes + 1, math.MaxInt64 - 1, math.MaxInt64}
	for _, text := range []string{"FREQ=DAILY;INTERVAL=3;COUNT=3", "FREQ=WEEKLY;UNTIL=19000120T0900", "FREQ=YEARLY;INTERVAL=150", "FREQ=YEARLY;INTERVAL=50;BYMONTH=12;BYMONTHDAY=31"} {
		r := read(t, text)
		for _, start := range []int64{540, 0, 1980, api.Minutes - 900, api.Minutes - 1} {
			all := byWords(r, start, 109938)
			for _, from := range edges {
				for _, to := range edges {
					isBetween(t, r, start, from, to, cut(all, from, to))
				}
			}
			for _, at := range edges {
				if recur.Has(r, start, at) != slices.Contains(all, at) {
					t.Errorf("Has(%s, %d, %d): not %v", text, start, at, slices.Contains(all, at))
				}
			}
		}
	}
}

// hasNoTimes asks for what is said of a rule, or a start, that may not be.
func hasNoTimes(t *testing.T, r api.Rule, start int64) {
	t.Helper()
	for at := range recur.Times(r, start) {
		t.Fatalf("Times(%+v, %d): %d", r, start, at)
	}
	isBetween(t, r, start, math.MinInt64, math.MaxInt64, nil)
	for _, at := range []int64{math.MinInt64, -1, 0, 540, start, api.Minutes - 1, api.Minutes, math.MaxInt64} {
		if recur.Has(r, start, at) {
			t.Fatalf("Has(%+v, %d, %d)", r, start, at)
		}
	}
}

func TestP10_1_RulesThatMayNotBe(t *testing.T) {
	for _, r := range []api.Rule{
		{}, {Freq: 1, Interval: 1, Until: math.MinInt64}, {Freq: 0, Interval: 1, Until: -1}, {Freq: 5, Interval: 1, Until: -1}, {Freq: math.MinInt, Interval: 1, Until: -1}, {Freq: math.MaxInt, Interval: 1, Until: -1},
		{Freq: 1, Until: -1}, {Freq: 1, Interval: -1, Until: -1}, {Freq: 1, Interval: 1000, Until: -1}, {Freq: 1, Interval: math.MinInt, Until: -1}, {Freq: 4, Interval: math.MaxInt, Until: -1},
		{Freq: 1, Interval: 1, Count: -1, Until: -1}, {Freq: 1, Interval: 1, Count: 5001, Until: -1}, {Freq: 1, Interval: 1, Count: 1, Until: 5000}, {Freq: 1, Interval: 1, Until: -2}, {Freq: 1, Interval: 1, Until: api.Minutes}, {Freq: 1, Interval: 1, Until: math.MaxInt64},
		{Freq: 1, Interval: 1, Until: -1, ByMonth: []int{0, 1}}, {Freq: 1, Interval: 1, Until: -1, ByMonth: []int{1, 13}}, {Freq: 1, Interval: 1, Until: -1, ByMonth: []int{2, 1}}, {Freq: 1, Interval: 1, Until: -1, ByMonth: []int{1, 1}},
		{Freq: 2, Interval: 1, Until: -1, ByMonthDay: []int{1}}, {Freq: 3, Interval: 1, Until: -1, ByMonthDay: []int{0}}, {Freq: 3, Interval: 1, Until: -1, ByMonthDay: []int{1, -1}}, {Freq: 3, Interval: 1, Until: -1, ByMonthDay: []int{32}},
		{Freq: 1, Interval: 1, Until: -1, ByDay: []api.DayN{{N: 1}}}, {Freq: 4, Interval: 1, Until: -1, ByDay: []api.DayN{{N: 1}}}, {Freq: 2, Interval: 1, Until: -1, ByDay: []api.DayN{{Day: 7}}}, {Freq: 2, Interval: 1, Until: -1, ByDay: []api.DayN{{Day: 1}, {Day: 0}}}, {Freq: 3, Interval: 1, Until: -1, ByDay: []api.DayN{{N: 6}}},
		{Freq: 1, Interval: 1, Until: -1, BySetPos: []int{1}}, {Freq: 1, Interval: 1, Until: -1, ByMonth: []int{1}, BySetPos: []int{0}}, {Freq: 1, Interval: 1, Until: -1, ByMonth: []int{1}, BySetPos: []int{367}}, {Freq: 1, Interval: 1, Until: -1, ByMonth: []int{1}, BySetPos: []int{1, -1}},
		{Freq: 2, Interval: 1, Until: -1, Start: -1}, {Freq: 2, Interval: 1, Until: -1, Start: 7}, {Freq: 2, Interval: 1, Until: -1, Start: math.MaxInt},
	} {
		if rule.May(r) {
			t.Fatalf("%+v may be", r)
		}
		hasNoTimes(t, r, 540)
		hasNoTimes(t, r, -1)
	}
}

func TestP10_1_StartsThatMayNotBe(t *testing.T) {
	for _, text := range []string{"FREQ=DAILY", "FREQ=WEEKLY;WKST=SU", "FREQ=MONTHLY;COUNT=2", "FREQ=YEARLY", "FREQ=YEARLY;BYDAY=MO,TU,WE,TH,FR,SA,SU;BYSETPOS=-1"} {
		for _, start := range []int64{math.MinInt64, math.MinInt64 + 1, -1441, -1440, -1439, -1, api.Minutes, api.Minutes + 1, api.Minutes + 1440, math.MaxInt64 - 1, math.MaxInt64} {
			hasNoTimes(t, read(t, text), start)
		}
	}
}

// TestP10_1_AskedWhetherToGoOn: whoever ranges is asked behind each time, and not any more once the answer was no.
func TestP10_1_AskedWhetherToGoOn(t *testing.T) {
	for _, text := range []string{"FREQ=DAILY", "FREQ=DAILY;COUNT=6", "FREQ=WEEKLY;BYDAY=MO,TU,FR", "FREQ=MONTHLY;BYDAY=-1FR,1FR,3FR", "FREQ=YEARLY;BYMONTH=1,2,3;BYMONTHDAY=1,2,3", "FREQ=YEARLY;BYDAY=TU;BYSETPOS=-1,1,2,3"} {
		r, start := read(t, text), stamp(t, "2026-01-01T12:00")
		all := byWords(r, start, 109938)
		times := recur.Times(r, start)
		for most := 1; most <= 6; most++ {
			var got []int64
			times(func(at int64) bool {
				got = append(got, at)
				return len(got) < most
			})
			if !slices.Equal(got, all[:most]) {
				t.Errorf("%s: asked %d times, of %d: %v", text, len(got), most, got)
			}
		}
	}
}

// TestP10_1_RangedOverAgain: what is handed out doesn't hang on who ranged ahead, or beside.
func TestP10_1_RangedOverAgain(t *testing.T) {
	for _, text := range []string{"FREQ=DAILY;COUNT=20", "FREQ=WEEKLY;UNTIL=20260301T0000;BYDAY=MO,TU", "FREQ=YEARLY;COUNT=15;BYDAY=TU;BYSETPOS=-1,1,2,3"} {
		r, start := read(t, text), stamp(t, "2026-01-01T12:00")
		all := byWords(r, start, 109938)
		times := recur.Times(r, start)
		for i := range times {
			if got := upTo(times, i+1); !slices.Equal(got, cut(all, 0, i+1)) {
				t.Fatalf("%+v: within: %v", r, got)
			}
		}
		a, stopA := iter.Pull(times)
		b, stopB := iter.Pull(times)
		for i, want := range all {
			x, okX := a()
			y, okY := b()
			if x != want || y != want || !okX || !okY {
				t.Fatalf("%+v: beside: %d: %d, %d", r, i, x, y)
			}
		}
		if _, ok := a(); ok {
			t.Errorf("%+v: more than %d times", r, len(all))
		}
		stopA()
		stopB()
	}
}

// copied is a rule in memory of its own, with room behind its lists, and empty lists instead of nil ones.
func copied(r api.Rule) api.Rule {
	r.ByMonth = append(make([]int, 0, 9), r.ByMonth...)
	r.ByMonthDay = append(make([]int, 0, 9), r.ByMonthDay...)
	r.ByDay = append(make([]api.DayN, 0, 9), r.ByDay...)
	r.BySetPos = append(make([]int, 0, 9), r.BySetPos...)
	return r
}

// withRoom is a rule whose lists have the room behind them, too.
func withRoom(r api.Rule) api.Rule {
	r.ByMonth = r.ByMonth[:cap(r.ByMonth)]
	r.ByMonthDay = r.ByMonthDay[:cap(r.ByMonthDay)]
	r.ByDay = r.ByDay[:cap(r.ByDay)]
	r.BySetPos = r.BySetPos[:cap(r.BySetPos)]
	return r
}

// scribble writes into all that a rule's lists have, and into the room behind it.
func scribble(r api.Rule) {
	r = withRoom(r)
	for _, row := range [][]int{r.ByMonth, r.ByMonthDay, r.BySetPos} {
		for i := range row {
			row[i] = 5
		}
	}
	for i := range r.ByDay {
		r.ByDay[i] = api.DayN{N: 3, Day: 5}
	}
}

// someCourses are rules with times of all kinds, from the beginning of 2026 on.
func someCourses(t *testing.T) []api.Rule {
	var l []api.Rule
	for _, text := range []string{
		"FREQ=DAILY", "FREQ=WEEKLY", "FREQ=MONTHLY", "FREQ=YEARLY", "FREQ=DAILY;COUNT=9;BYMONTH=1,2;BYMONTHDAY=-1,1,2,3", "FREQ=WEEKLY;INTERVAL=2;BYMONTH=1,3,4;BYDAY=MO,TH;WKST=TH",
		"FREQ=MONTHLY;UNTIL=20270101T0000;BYDAY=-1FR,TU,1MO;BYSETPOS=-1,2", "FREQ=YEARLY;BYMONTH=1,2,6,7;BYMONTHDAY=-3,10,11,12;BYDAY=1MO,2MO,3TU;BYSETPOS=-1,1", "FREQ=MONTHLY;BYMONTH=1,2,4", "FREQ=YEARLY;BYMONTH=1,2,4",
	} {
		l = append(l, read(t, text))
	}
	return l
}

// TestP10_1_NothingChangedOrKept: R3 of the document.
func TestP10_1_NothingChangedOrKept(t *testing.T) {
	start, end := stamp(t, "2026-01-02T12:00"), stamp(t, "2028-01-01T00:00")
	for _, r := range someCourses(t) {
		want := byWords(r, start, int(end/1440))
		given, as := copied(r), copied(r)
		times := recur.Times(given, start)
		if got := upTo(times, end); !slices.Equal(got, want) {
			t.Fatalf("%+v: %v, not %v", r, got, want)
		}
		recur.Has(given, start, start)
		row, _ := recur.Between(given, start, start, end, len(want))
		if !reflect.DeepEqual(given, as) || !reflect.DeepEqual(withRoom(given), withRoom(as)) {
			t.Fatalf("%+v was changed to %+v", withRoom(as), withRoom(given))
		}
		for i := range row[:cap(row)] {
			row[:cap(row)][i] = -7
		}
		if again, _ := recur.Between(given, start, start, end, len(want)); !slices.Equal(again, want) {
			t.Errorf("%+v: %v, once an answer was written into", r, again)
		}
		scribble(given)
		if got := upTo(times, end); !slices.Equal(got, want) {
			t.Errorf("%+v: %v, once the rule was written into", r, got)
		}
		given = copied(r)
		var got []int64
		for at := range recur.Times(given, start) {
			if at >= end {
				break
			}
			scribble(given)
			got = append(got, at)
		}
		if !slices.Equal(got, want) {
			t.Errorf("%+v: %v, while the rule was written into", r, got)
		}
	}
}

// TestP10_1_NilAsEmpty: R4 of the document.
func TestP10_1_NilAsEmpty(t *testing.T) {
	start, end := stamp(t, "2026-01-02T12:00"), stamp(t, "2030-01-01T00:00")
	for _, r := range someCourses(t) {
		a, okA := recur.Between(r, start, start, end, 5000)
		b, okB := recur.Between(copied(r), start, start, end, 5000)
		if !slices.Equal(a, b) || !okA || !okB || len(a) == 0 {
			t.Errorf("%+v: %v, with empty lists %v", r, a, b)
		}
		if !slices.Equal(a, upTo(recur.Times(copied(r), start), end)) || !recur.Has(copied(r), start, a[0]) {
			t.Errorf("%+v: others with empty lists", r)
		}
	}
}

// TestP10_1_SameAnswers: R5 of the document, with calls beside each other, and many who range over one row of times.
func TestP10_1_SameAnswers(t *testing.T) {
	start, end := stamp(t, "2026-01-02T12:00"), stamp(t, "2030-01-01T00:00")
	for _, r := range someCourses(t) {
		want := byWords(r, start, int(end/1440))
		times := recur.Times(r, start)
		var all sync.WaitGroup
		for range 8 {
			all.Go(func() {
				row, ok := recur.Between(r, start, start, end, len(want))
				if !ok || !slices.Equal(row, want) || !slices.Equal(upTo(times, end), want) || !recur.Has(r, start, want[len(want)-1]) {
					t.Errorf("%+v: others beside each other", r)
				}
			})
		}
		all.Wait()
	}
}
