package rule_test

import (
	"fmt"
	"math"
	"math/rand"
	"reflect"
	"regexp"
	"strconv"
	"strings"
	"sync"
	"testing"
	"time"

	"vespers/api"
	"vespers/rule"
)

// The tests hold the calls against the chapter's words, taken one by one: which rules may be is told by what must not be, a text is written by fmt and the library's clock, and read by a pattern.

// hasTwo tells whether some thing of a row stands ahead of one of which that must not be.
func hasTwo[T any](row []T, must func(a, b T) bool) bool {
	for i := range row {
		for j := range row[:i] {
			if !must(row[j], row[i]) {
				return true
			}
		}
	}
	return false
}

func below(a, b int) bool { return a < b }

// hasOther tells whether a row has a number that isn't from one to another one, or, below 0, from one to another one.
func hasOther(row []int, first, last, firstBelow, lastBelow int) bool {
	for _, n := range row {
		if !(n >= first && n <= last || n >= firstBelow && n <= lastBelow) {
			return true
		}
	}
	return false
}

// faults are the chapter's words that a rule breaks.
func faults(r api.Rule) []string {
	var l []string
	say := func(is bool, text string) {
		if is {
			l = append(l, text)
		}
	}
	say(r.Freq != api.Daily && r.Freq != api.Weekly && r.Freq != api.Monthly && r.Freq != api.Yearly, "Freq")
	say(r.Interval <= 0 || r.Interval >= 1000, "Interval")
	say(r.Count < 0 || r.Count >= 5001, "Count")
	say(r.Until < -1 || r.Until >= 158310720, "Until")
	say(r.Until != -1 && r.Count != 0, "Count beside Until")
	say(hasTwo(r.ByMonth, below), "ByMonth falls")
	say(hasOther(r.ByMonth, 1, 12, 1, 12), "ByMonth")
	say(hasTwo(r.ByMonthDay, below), "ByMonthDay falls")
	say(hasOther(r.ByMonthDay, 1, 31, -31, -1), "ByMonthDay")
	say(len(r.ByMonthDay) != 0 && r.Freq == 2, "ByMonthDay with Weekly")
	say(hasTwo(r.ByDay, func(a, b api.DayN) bool { return a.N < b.N || a.N == b.N && a.Day < b.Day }), "ByDay falls")
	for _, d := range r.ByDay {
		say(d.Day < 0 || d.Day > 6, "Day")
		say(d.N < -5 || d.N > 5, "N")
		say(d.N != 0 && (r.Freq == 1 || r.Freq == 2), "N with Daily or Weekly")
		say(d.N != 0 && r.Freq == 4 && len(r.ByMonth) == 0, "N with Yearly, without ByMonth")
	}
	say(hasTwo(r.BySetPos, below), "BySetPos falls")
	say(hasOther(r.BySetPos, 1, 366, -366, -1), "BySetPos")
	say(len(r.BySetPos) != 0 && len(r.ByMonth)+len(r.ByMonthDay)+len(r.ByDay) == 0, "BySetPos alone")
	say(r.Start < 0 || r.Start >= 7, "Start")
	return l
}

var dayTexts = []string{"MO", "TU", "WE", "TH", "FR", "SA", "SU"}

var freqTexts = []string{"", "DAILY", "WEEKLY", "MONTHLY", "YEARLY"}

var epoch = time.Date(1900, time.January, 1, 0, 0, 0, 0, time.UTC)

// commas are the things of a list as fmt writes them, with commas between.
func commas(list any) string {
	return strings.ReplaceAll(strings.Trim(fmt.Sprint(list), "[]"), " ", ",")
}

// textByWords is the text of a rule that may be.
func textByWords(r api.Rule) string {
	var days []string
	for _, d := range r.ByDay {
		days = append(days, strings.TrimPrefix(fmt.Sprintf("%d%s", d.N, dayTexts[d.Day]), "0"))
	}
	until := epoch.AddDate(0, 0, int(r.Until/1440)).Add(time.Duration(r.Until%1440) * time.Minute)
	var parts []string
	for _, part := range []struct {
		is   bool
		text string
	}{
		{true, "FREQ=" + freqTexts[r.Freq]},
		{r.Interval > 1, fmt.Sprintf("INTERVAL=%d", r.Interval)},
		{r.Count > 0, fmt.Sprintf("COUNT=%d", r.Count)},
		{r.Until >= 0, "UNTIL=" + until.Format("20060102T1504")},
		{len(r.ByMonth) > 0, "BYMONTH=" + commas(r.ByMonth)},
		{len(r.ByMonthDay) > 0, "BYMONTHDAY=" + commas(r.ByMonthDay)},
		{len(r.ByDay) > 0, "BYDAY=" + commas(days)},
		{len(r.BySetPos) > 0, "BYSETPOS=" + commas(r.BySetPos)},
		{r.Start > 0, "WKST=" + dayTexts[r.Start]},
	} {
		if part.is {
			parts = append(parts, part.text)
		}
	}
	return strings.Join(parts, ";")
}

// form is that of all texts; it says nothing of how great numbers are, and how they stand in rows.
var form = regexp.MustCompile(`\AFREQ=(DAILY|WEEKLY|MONTHLY|YEARLY)` +
	`(?:;INTERVAL=([1-9][0-9]*))?(?:;COUNT=([1-9][0-9]*))?(?:;UNTIL=([0-9]{8}T[0-9]{4}))?` +
	`(?:;BYMONTH=([1-9][0-9]*(?:,[1-9][0-9]*)*))?` +
	`(?:;BYMONTHDAY=(-?[1-9][0-9]*(?:,-?[1-9][0-9]*)*))?` +
	`(?:;BYDAY=((?:-?[1-9][0-9]*)?(?:MO|TU|WE|TH|FR|SA|SU)(?:,(?:-?[1-9][0-9]*)?(?:MO|TU|WE|TH|FR|SA|SU))*))?` +
	`(?:;BYSETPOS=(-?[1-9][0-9]*(?:,-?[1-9][0-9]*)*))?` +
	`(?:;WKST=(TU|WE|TH|FR|SA|SU))?\z`)

// placeOf is where a text stands in a list.
func placeOf(s string, l []string) int {
	for i, x := range l {
		if x == s {
			return i
		}
	}
	return -1
}

// numberByWords is a number's, or, if there is none, what stands for none; one that is too great to be read may not be anywhere.
func numberByWords(s string, none int) int {
	n, err := strconv.ParseInt(s, 10, 64)
	switch {
	case s == "":
		return none
	case err != nil:
		return math.MaxInt
	}
	return int(n)
}

func numbersByWords(s string) []int {
	var l []int
	if s != "" {
		for _, x := range strings.Split(s, ",") {
			l = append(l, numberByWords(x, 0))
		}
	}
	return l
}

func daysByWords(s string) []api.DayN {
	var l []api.DayN
	if s != "" {
		for _, x := range strings.Split(s, ",") {
			l = append(l, api.DayN{N: numberByWords(x[:len(x)-2], 0), Day: placeOf(x[len(x)-2:], dayTexts)})
		}
	}
	return l
}

// readByWords is the rule of a text.
func readByWords(s string) (api.Rule, bool) {
	m := form.FindStringSubmatch(s)
	if m == nil || m[2] == "1" {
		return api.Rule{}, false
	}
	r := api.Rule{Freq: placeOf(m[1], freqTexts), Interval: numberByWords(m[2], 1), Count: numberByWords(m[3], 0), Until: -1,
		ByMonth: numbersByWords(m[5]), ByMonthDay: numbersByWords(m[6]), ByDay: daysByWords(m[7]), BySetPos: numbersByWords(m[8])}
	if m[4] != "" {
		at, err := time.Parse("20060102T1504", m[4])
		if err != nil || at.Year() < 1900 {
			return api.Rule{}, false
		}
		r.Until = (at.Unix() - epoch.Unix()) / 60
	}
	if m[9] != "" {
		r.Start = placeOf(m[9], dayTexts)
	}
	if faults(r) != nil {
		return api.Rule{}, false
	}
	return r, true
}

// empty is a rule with nil lists instead of empty ones, so that rules can be held against each other by the library.
func empty(r api.Rule) api.Rule {
	if len(r.ByMonth) == 0 {
		r.ByMonth = nil
	}
	if len(r.ByMonthDay) == 0 {
		r.ByMonthDay = nil
	}
	if len(r.ByDay) == 0 {
		r.ByDay = nil
	}
	if len(r.BySetPos) == 0 {
		r.BySetPos = nil
	}
	return r
}

func alike(a, b api.Rule) bool { return reflect.DeepEqual(empty(a), empty(b)) }

// isRule asks for what the chapter says of a rule: whether it may be, and its text, and what is read of that.
func isRule(t *testing.T, r api.Rule) {
	t.Helper()
	may, want := faults(r) == nil, ""
	if rule.May(r) != may {
		t.Fatalf("May(%+v): not %v: %q", r, may, faults(r))
	}
	if may {
		want = textByWords(r)
	}
	s, ok := rule.Text(r)
	if s != want || ok != may {
		t.Fatalf("Text(%+v): %q, %v, not %q, %v", r, s, ok, want, may)
	}
	if may {
		if back, is := rule.Read(s); !is || !alike(back, r) {
			t.Fatalf("Read(%q): %+v, %v, not %+v", s, back, is, r)
		}
	}
}

// isRead asks for what the chapter says of a text.
func isRead(t *testing.T, s string) {
	t.Helper()
	want, is := readByWords(s)
	r, ok := rule.Read(s)
	if ok != is || !alike(r, want) {
		t.Fatalf("Read(%.200q): %+v, %v, not %+v, %v", s, r, ok, want, is)
	}
	if ok {
		if back, may := rule.Text(r); !may || back != s {
			t.Fatalf("Text of what is read of %.200q: %q, %v", s, back, may)
		}
	}
}

// from are all numbers from one to another one but 0.
func from(first, last int) []int {
	var l []int
	for n := first; n <= last; n++ {
		if n != 0 {
			l = append(l, n)
		}
	}
	return l
}

// allDays are all weekdays that may be in one row, in their order.
func allDays() []api.DayN {
	var l []api.DayN
	for n := -5; n <= 5; n++ {
		for day := range 7 {
			l = append(l, api.DayN{N: n, Day: day})
		}
	}
	return l
}

var (
	freqs     = []int{math.MinInt, -1, 0, 1, 2, 3, 4, 5, math.MaxInt}
	intervals = []int{math.MinInt, -999, -1, 0, 1, 2, 10, 998, 999, 1000, math.MaxInt}
	counts    = []int{math.MinInt, -5000, -1, 0, 1, 2, 10, 4999, 5000, 5001, math.MaxInt}
	untils    = []int64{math.MinInt64, -1440, -2, -1, 0, 1, 59, 60, 1439, 1440, 36583*1440 + 61, api.Minutes - 1441, api.Minutes - 1440, api.Minutes - 1, api.Minutes, api.Minutes + 1, math.MaxInt64}
	starts    = []int{math.MinInt, -1, 0, 1, 2, 3, 4, 5, 6, 7, math.MaxInt}
)

func monthRows() [][]int {
	return [][]int{nil, {}, {0}, {1}, {2}, {11}, {12}, {13}, {-1}, {1, 2}, {2, 1}, {7, 7}, {1, 12}, {12, 1}, {0, 1}, {12, 13}, {3, 5, 5}, {3, 5, 4}, {1, 3, 2, 4}, from(1, 12), from(1, 13), {math.MinInt, 1}, {1, math.MaxInt}}
}

func monthDayRows() [][]int {
	return [][]int{nil, {}, {0}, {1}, {31}, {32}, {-1}, {-31}, {-32}, {-1, 1}, {1, -1}, {-1, -2}, {-2, -1}, {15, 15}, {-1, 0, 1}, {1, 10, 9}, {-32, 31}, {-31, 31}, from(-31, 31), from(-32, 31), from(-31, 32), {math.MinInt, 1}, {1, math.MaxInt}}
}

func dayRows() [][]api.DayN {
	return [][]api.DayN{nil, {}, {{Day: 0}}, {{Day: 6}}, {{Day: 7}}, {{Day: -1}}, {{N: -5, Day: 3}}, {{N: 5, Day: 3}}, {{N: -6, Day: 3}}, {{N: 6, Day: 3}}, {{N: 1}}, {{N: -1, Day: 6}}, {{N: 1, Day: 7}}, {{N: 1, Day: -1}},
		{{Day: 0}, {Day: 1}}, {{Day: 1}, {Day: 0}}, {{Day: 2}, {Day: 2}}, {{N: 1, Day: 2}, {N: 1, Day: 2}}, {{N: -1, Day: 4}, {Day: 0}, {N: 2, Day: 1}}, {{N: 1, Day: 0}, {Day: 6}}, {{Day: 6}, {N: 1, Day: 0}}, {{N: 2, Day: 0}, {N: 1, Day: 6}}, {{N: 1, Day: 6}, {N: 2, Day: 0}}, {{N: -1}, {N: -2}}, {{N: -2, Day: 1}, {N: -1, Day: 1}},
		allDays()[35:42], allDays(), append(allDays(), api.DayN{N: 6}), append([]api.DayN{{N: -6, Day: 6}}, allDays()...), append(allDays(), api.DayN{N: 5, Day: 7}), {{N: math.MinInt}}, {{N: math.MaxInt}}, {{Day: math.MinInt}}, {{Day: math.MaxInt}}}
}

func placeRows() [][]int {
	return [][]int{nil, {}, {0}, {1}, {366}, {367}, {-1}, {-366}, {-367}, {-1, 1}, {1, -1}, {-1, -2}, {100, 100}, {-366, 1, 366}, {1, 10, 9}, from(-366, 366), {math.MinInt, 1}, {1, math.MaxInt}}
}

func TestP9_1_ExamplesOfTheChapter(t *testing.T) {
	want := api.Rule{Freq: api.Monthly, Interval: 1, Until: -1, ByDay: []api.DayN{{N: -1, Day: 4}}}
	r, ok := rule.Read("FREQ=MONTHLY;BYDAY=-1FR")
	if !ok || !rule.Same(r, want) || !alike(r, want) {
		t.Errorf("%+v, %v", r, ok)
	}
	if s, ok := rule.Text(want); s != "FREQ=MONTHLY;BYDAY=-1FR" || !ok {
		t.Errorf("%q, %v", s, ok)
	}
	if !rule.May(want) {
		t.Error("it may not be")
	}
}

func TestP9_1_RulesAndTheirTexts(t *testing.T) {
	for s, r := range map[string]api.Rule{
		"FREQ=DAILY":             {Freq: 1, Interval: 1, Until: -1},
		"FREQ=WEEKLY":            {Freq: 2, Interval: 1, Until: -1},
		"FREQ=MONTHLY":           {Freq: 3, Interval: 1, Until: -1},
		"FREQ=YEARLY":            {Freq: 4, Interval: 1, Until: -1},
		"FREQ=DAILY;INTERVAL=2":  {Freq: 1, Interval: 2, Until: -1},
		"FREQ=DAILY;COUNT=1":     {Freq: 1, Interval: 1, Count: 1, Until: -1},
		"FREQ=DAILY;COUNT=5000":  {Freq: 1, Interval: 1, Count: 5000, Until: -1},
		"FREQ=WEEKLY;WKST=SU":    {Freq: 2, Interval: 1, Until: -1, Start: 6},
		"FREQ=DAILY;WKST=TU":     {Freq: 1, Interval: 1, Until: -1, Start: 1},
		"FREQ=DAILY;BYMONTH=1,2": {Freq: 1, Interval: 1, Until: -1, ByMonth: []int{1, 2}},
		"FREQ=DAILY;INTERVAL=999;UNTIL=19000101T0000;BYMONTHDAY=-31,31;BYSETPOS=-366": {Freq: 1, Interval: 999, ByMonthDay: []int{-31, 31}, BySetPos: []int{-366}},
		"FREQ=YEARLY;UNTIL=22001231T2359;BYMONTH=12;BYDAY=-5SA,WE,1MO":                {Freq: 4, Interval: 1, Until: api.Minutes - 1, ByMonth: []int{12}, ByDay: []api.DayN{{N: -5, Day: 5}, {Day: 2}, {N: 1}}},
		"FREQ=YEARLY;BYDAY=MO,TU,WE,TH,FR,SA,SU;BYSETPOS=1":                           {Freq: 4, Interval: 1, Until: -1, ByDay: allDays()[35:42], BySetPos: []int{1}},
	} {
		if got, ok := rule.Text(r); got != s || !ok {
			t.Errorf("Text(%+v): %q, %v, not %q", r, got, ok, s)
		}
		if got, ok := rule.Read(s); !ok || !alike(got, r) {
			t.Errorf("Read(%q): %+v, %v, not %+v", s, got, ok, r)
		}
		if !rule.May(r) {
			t.Errorf("May(%+v): false", r)
		}
	}
}

// TestP9_1_MayOfRows goes through all rows, each with each, of each Freq.
func TestP9_1_MayOfRows(t *testing.T) {
	n := 0
	for _, freq := range freqs {
		for _, months := range monthRows() {
			for _, monthDays := range monthDayRows() {
				for _, days := range dayRows() {
					n++
					// Four rows of places beside all others, and the rest beside a part of them.
					for i, places := range placeRows() {
						if i < 4 || (n+i)%23 == 0 {
							isRule(t, api.Rule{Freq: freq, Interval: 1, Until: -1, ByMonth: months, ByMonthDay: monthDays, ByDay: days, BySetPos: places})
						}
					}
				}
			}
		}
	}
}

// TestP9_1_MayOfNumbers goes through all numbers beside rows, each with each.
func TestP9_1_MayOfNumbers(t *testing.T) {
	for _, freq := range freqs {
		for _, interval := range intervals {
			for _, count := range counts {
				for _, until := range untils {
					for _, start := range starts {
						isRule(t, api.Rule{Freq: freq, Interval: interval, Count: count, Until: until, Start: start})
					}
				}
			}
		}
	}
}

func TestP9_1_EachNumber(t *testing.T) {
	base := api.Rule{Freq: api.Monthly, Interval: 1, Until: -1}
	for n := -1100; n <= 5100; n++ {
		r := base
		r.Interval = n
		isRule(t, r)
		r = base
		r.Count = n
		isRule(t, r)
		r = base
		r.Start = n
		isRule(t, r)
		r = base
		r.Freq = n
		isRule(t, r)
		for freq := range 6 {
			isRule(t, api.Rule{Freq: freq, Interval: 1, Until: -1, ByMonth: []int{n}})
			isRule(t, api.Rule{Freq: freq, Interval: 1, Until: -1, ByMonthDay: []int{n}})
			isRule(t, api.Rule{Freq: freq, Interval: 1, Until: -1, ByMonth: []int{2}, ByDay: []api.DayN{{N: n, Day: 2}}})
			isRule(t, api.Rule{Freq: freq, Interval: 1, Until: -1, ByDay: []api.DayN{{Day: n}}})
			isRule(t, api.Rule{Freq: freq, Interval: 1, Until: -1, ByMonth: []int{2}, BySetPos: []int{n}})
		}
	}
}

func TestP9_1_EachUntil(t *testing.T) {
	for day := range int64(api.Days) {
		isRule(t, api.Rule{Freq: api.Daily, Interval: 1, Until: day * 1440})
		isRule(t, api.Rule{Freq: api.Yearly, Interval: 1, Until: day*1440 + (day*7)%1440})
	}
	for minute := range int64(1440) {
		isRule(t, api.Rule{Freq: api.Weekly, Interval: 1, Until: 36583*1440 + minute})
	}
}

// someTexts are of all parts, alone and together.
func someTexts() []string {
	return []string{
		"FREQ=DAILY",
		"FREQ=WEEKLY;INTERVAL=2;COUNT=10;BYDAY=TU,TH;WKST=SU",
		"FREQ=MONTHLY;UNTIL=20000229T0101;BYMONTHDAY=-1,15;BYDAY=-1FR,MO,2TU",
		"FREQ=YEARLY;INTERVAL=999;COUNT=5000;BYMONTH=1,12;BYMONTHDAY=-31,31;BYDAY=-5SU,5SU;BYSETPOS=-366,1,366;WKST=WE",
		"FREQ=DAILY;UNTIL=22001231T2359;BYMONTH=9,10,11",
		"FREQ=DAILY;UNTIL=19000101T0000",
	}
}

func TestP9_1_ReadOfTextsNearby(t *testing.T) {
	for _, s := range someTexts() {
		if _, ok := rule.Read(s); !ok {
			t.Errorf("Read(%q): false", s)
		}
		for i := 0; i <= len(s); i++ {
			for b := range 256 {
				c := string([]byte{byte(b)})
				isRead(t, s[:i]+c+s[i:])
				if i < len(s) {
					isRead(t, s[:i]+c+s[i+1:])
				}
			}
			isRead(t, s[:i])
			isRead(t, s[i:])
			// Any piece left out, or told twice.
			for j := i + 1; j <= len(s); j++ {
				isRead(t, s[:i]+s[j:])
				isRead(t, s[:j]+s[i:])
			}
		}
	}
}

// TestP9_1_ReadOfParts goes through rows of parts in any order, also of such as may stand in no text.
func TestP9_1_ReadOfParts(t *testing.T) {
	parts := []string{
		"FREQ=DAILY", "FREQ=WEEKLY", "FREQ=MONTHLY", "FREQ=YEARLY", "INTERVAL=2", "INTERVAL=1", "COUNT=3", "COUNT=0", "UNTIL=20000229T0101",
		"BYMONTH=1", "BYMONTHDAY=-1", "BYDAY=MO", "BYDAY=1MO", "BYSETPOS=1", "WKST=SU", "WKST=MO", "", "BYMONTH=",
	}
	read := 0
	var more func(row []string)
	more = func(row []string) {
		s := strings.Join(row, ";")
		isRead(t, s)
		if _, ok := rule.Read(s); ok {
			read++
		}
		if len(row) == 4 {
			return
		}
		for _, part := range parts {
			more(append(row, part))
		}
	}
	more(nil)
	if read < 100 {
		t.Errorf("%d are read", read)
	}
}

// TestP9_1_ReadOfAllParts has all parts at once, and takes each two of them for each other.
func TestP9_1_ReadOfAllParts(t *testing.T) {
	parts := []string{"FREQ=YEARLY", "INTERVAL=2", "COUNT=3", "BYMONTH=1", "BYMONTHDAY=-1", "BYDAY=1MO", "BYSETPOS=1", "WKST=SU"}
	for i := range parts {
		for j := range parts {
			row := append([]string{}, parts...)
			row[i], row[j] = row[j], row[i]
			s := strings.Join(row, ";")
			isRead(t, s)
			if _, ok := rule.Read(s); ok != (i == j) {
				t.Errorf("Read(%q): %v", s, ok)
			}
		}
	}
}

func TestP9_1_ReadOfNone(t *testing.T) {
	none := []string{
		"", " ", ";", "=", "FREQ", "FREQ=", "=DAILY", "DAILY", "FREQ=HOURLY", "FREQ=SECONDLY", "freq=DAILY", "FREQ=daily", "FREQ=Daily", "FREQ=DAILY;", ";FREQ=DAILY", "FREQ=DAILY;;COUNT=2", " FREQ=DAILY", "FREQ=DAILY ", "FREQ= DAILY", "FREQ=DAILY\n", "FREQ=DAILY\x00", "FREQ==DAILY", "FREQ=DAILY=", "FREQ=DAILY,WEEKLY", "RRULE:FREQ=DAILY",
		"FREQ=DAILY;INTERVAL=1", "FREQ=DAILY;INTERVAL=0", "FREQ=DAILY;INTERVAL=-1", "FREQ=DAILY;INTERVAL=1000", "FREQ=DAILY;INTERVAL=02", "FREQ=DAILY;INTERVAL=+2", "FREQ=DAILY;INTERVAL=0x2", "FREQ=DAILY;INTERVAL=1_0", "FREQ=DAILY;INTERVAL=2.0", "FREQ=DAILY;INTERVAL=2e1", "FREQ=DAILY;INTERVAL=", "FREQ=DAILY;INTERVAL", "FREQ=DAILY;INTERVAL=٢", "FREQ=DAILY;INTERVAL=2,3", "FREQ=DAILY;INTERVAL=99999999999999999999", "FREQ=DAILY;INTERVAL=18446744073709551618",
		"FREQ=DAILY;COUNT=0", "FREQ=DAILY;COUNT=-1", "FREQ=DAILY;COUNT=5001", "FREQ=DAILY;COUNT=010", "FREQ=DAILY;COUNT=+3", "FREQ=DAILY;COUNT=", "FREQ=DAILY;COUNT=2;COUNT=2", "FREQ=DAILY;COUNT=2;COUNT=3", "FREQ=DAILY;COUNT=3;UNTIL=20000101T0000", "FREQ=DAILY;COUNT=3;INTERVAL=2", "COUNT=3;FREQ=DAILY", "FREQ=DAILY;FREQ=DAILY", "FREQ=DAILY;FREQ=WEEKLY",
		"FREQ=DAILY;UNTIL=-1", "FREQ=DAILY;UNTIL=", "FREQ=DAILY;UNTIL=20000101", "FREQ=DAILY;UNTIL=20000101T000000", "FREQ=DAILY;UNTIL=20000101T0000Z", "FREQ=DAILY;UNTIL=20000101t0000", "FREQ=DAILY;UNTIL=20000101T00:00", "FREQ=DAILY;UNTIL=2000-01-01T0000", "FREQ=DAILY;UNTIL=2000-01-01T00:00", "FREQ=DAILY;UNTIL=20000230T0000", "FREQ=DAILY;UNTIL=20001301T0000", "FREQ=DAILY;UNTIL=20000100T0000", "FREQ=DAILY;UNTIL=20000101T2400", "FREQ=DAILY;UNTIL=20000101T2360", "FREQ=DAILY;UNTIL=20000101T0060",
		"FREQ=DAILY;UNTIL=22001231T2400", "FREQ=DAILY;UNTIL=22010101T0000", "FREQ=DAILY;UNTIL=18991231T2359", "FREQ=DAILY;UNTIL=00000000T0000", "FREQ=DAILY;UNTIL=2000001T00000", "FREQ=DAILY;UNTIL=+2000101T0000", "FREQ=DAILY;UNTIL=é000101T0000", "FREQ=DAILY;UNTIL=20000101T-000", "FREQ=DAILY;UNTIL=20000101 0000",
		"FREQ=DAILY;BYMONTH=", "FREQ=DAILY;BYMONTH=0", "FREQ=DAILY;BYMONTH=13", "FREQ=DAILY;BYMONTH=-1", "FREQ=DAILY;BYMONTH=01", "FREQ=DAILY;BYMONTH=1,", "FREQ=DAILY;BYMONTH=,1", "FREQ=DAILY;BYMONTH=1,,2", "FREQ=DAILY;BYMONTH=2,1", "FREQ=DAILY;BYMONTH=1,1", "FREQ=DAILY;BYMONTH=1 ,2", "FREQ=DAILY;BYMONTH=1;BYMONTH=2", "FREQ=DAILY;BYMONTH=JAN",
		"FREQ=WEEKLY;BYMONTHDAY=1", "FREQ=DAILY;BYMONTHDAY=0", "FREQ=DAILY;BYMONTHDAY=-0", "FREQ=DAILY;BYMONTHDAY=32", "FREQ=DAILY;BYMONTHDAY=-32", "FREQ=DAILY;BYMONTHDAY=+1", "FREQ=DAILY;BYMONTHDAY=1,-1", "FREQ=DAILY;BYMONTHDAY=--1", "FREQ=DAILY;BYMONTHDAY=-", "FREQ=DAILY;BYMONTHDAY=−1",
		"FREQ=DAILY;BYDAY=1MO", "FREQ=WEEKLY;BYDAY=-1MO", "FREQ=YEARLY;BYDAY=1MO", "FREQ=DAILY;BYMONTH=1;BYDAY=1MO", "FREQ=WEEKLY;BYMONTH=1;BYDAY=1MO", "FREQ=MONTHLY;BYDAY=FR,MO", "FREQ=MONTHLY;BYDAY=1MO,MO", "FREQ=MONTHLY;BYDAY=MO,MO", "FREQ=MONTHLY;BYDAY=+1MO", "FREQ=MONTHLY;BYDAY=0MO", "FREQ=MONTHLY;BYDAY=01MO", "FREQ=MONTHLY;BYDAY=-0MO", "FREQ=MONTHLY;BYDAY=6MO", "FREQ=MONTHLY;BYDAY=-6MO", "FREQ=MONTHLY;BYDAY=MO1", "FREQ=MONTHLY;BYDAY=1", "FREQ=MONTHLY;BYDAY=", "FREQ=MONTHLY;BYDAY=M", "FREQ=MONTHLY;BYDAY=O", "FREQ=MONTHLY;BYDAY=mo", "FREQ=MONTHLY;BYDAY=Mo", "FREQ=MONTHLY;BYDAY=1mo", "FREQ=MONTHLY;BYDAY=-MO", "FREQ=MONTHLY;BYDAY=XX", "FREQ=MONTHLY;BYDAY=MOTU", "FREQ=MONTHLY;BYDAY=MONDAY", "FREQ=MONTHLY;BYDAY=-", "FREQ=MONTHLY;BYDAY=é", "FREQ=MONTHLY;BYDAY=MO,", "FREQ=MONTHLY;BYDAY=1 MO",
		"FREQ=DAILY;BYSETPOS=1", "FREQ=DAILY;BYMONTH=1;BYSETPOS=0", "FREQ=DAILY;BYMONTH=1;BYSETPOS=367", "FREQ=DAILY;BYMONTH=1;BYSETPOS=-367", "FREQ=DAILY;BYMONTH=1;BYSETPOS=", "FREQ=DAILY;BYMONTH=1;BYSETPOS=1,1", "FREQ=DAILY;BYSETPOS=1;BYMONTH=1",
		"FREQ=DAILY;WKST=MO", "FREQ=DAILY;WKST=", "FREQ=DAILY;WKST=su", "FREQ=DAILY;WKST=1SU", "FREQ=DAILY;WKST=6", "FREQ=DAILY;WKST=SU,TU", "FREQ=DAILY;WKST=TU,SU", "FREQ=DAILY;WKST=-", "FREQ=DAILY;WKST=ſU", "FREQ=DAILY;WKST=SU;COUNT=2",
		"FREQ=DAILY;X=1", "FREQ=DAILY;BYHOUR=1", "FREQ=DAILY;BYYEARDAY=1", "FREQ=DAILY;BYWEEKNO=1", "FREQ=DAILY;interval=2", "FREQ=DAILY; INTERVAL=2", "FREQ=DAILY;INTERVAL =2", "FREQ=DAILY,INTERVAL=2", "FREQ=DAILY INTERVAL=2", "INTERVAL=2", "BYDAY=MO",
		strings.Repeat(";", 1<<20), strings.Repeat("=", 1<<20), strings.Repeat("0", 1<<20), strings.Repeat("FREQ=DAILY;", 1<<16), "FREQ=DAILY;INTERVAL=" + strings.Repeat("9", 1<<20), "FREQ=DAILY;INTERVAL=" + strings.Repeat("0", 1<<20) + "2", "FREQ=DAILY;BYMONTH=" + strings.Repeat("1,", 1<<18) + "1", "FREQ=DAILY;BYDAY=" + strings.Repeat("MO,", 1<<16) + "MO", "FREQ=DAILY;BYDAY=" + strings.Repeat(",", 1<<20), strings.Repeat("\xff", 1<<20),
	}
	for _, s := range none {
		if r, ok := rule.Read(s); ok || !reflect.DeepEqual(r, api.Rule{}) {
			t.Errorf("Read(%.100q): %+v, %v", s, r, ok)
		}
		if len(s) < 1<<10 {
			isRead(t, s)
		}
	}
}

func TestP9_1_TextOfNone(t *testing.T) {
	for _, r := range []api.Rule{
		{}, {Freq: 1}, {Freq: 1, Interval: 1, Until: -2}, {Freq: 1, Interval: 1, Until: api.Minutes}, {Freq: 1, Interval: 1, Count: 1}, {Freq: 0, Interval: 1}, {Freq: 5, Interval: 1}, {Freq: 1, Interval: 1, Start: 7},
		{Freq: math.MinInt, Interval: math.MinInt, Count: math.MinInt, Until: math.MinInt64, Start: math.MinInt},
		{Freq: math.MaxInt, Interval: math.MaxInt, Count: math.MaxInt, Until: math.MaxInt64, Start: math.MaxInt},
		{Freq: 2, Interval: 1, ByMonthDay: []int{1}}, {Freq: 1, Interval: 1, ByMonth: make([]int, 1<<20)}, {Freq: 1, Interval: 1, BySetPos: []int{1}},
	} {
		if s, ok := rule.Text(r); s != "" || ok || rule.May(r) {
			t.Errorf("Text(%.200v): %q, %v", r, s, ok)
		}
	}
}

// variants are rules each of which is another one than all others.
func variants() []api.Rule {
	return []api.Rule{
		{}, {Freq: 1}, {Interval: 1}, {Count: 1}, {Until: 1}, {Start: 1}, {Freq: -1}, {Interval: math.MinInt}, {Count: math.MaxInt}, {Until: -1}, {Start: 1 << 32},
		{ByMonth: []int{1}}, {ByMonthDay: []int{1}}, {BySetPos: []int{1}}, {ByDay: []api.DayN{{N: 1}}}, {ByDay: []api.DayN{{Day: 1}}}, {ByDay: []api.DayN{{}}},
		{ByMonth: []int{0}}, {ByMonthDay: []int{0}}, {BySetPos: []int{0}}, {ByMonth: []int{1, 2}}, {ByMonth: []int{2, 1}}, {ByMonth: []int{1, 1}}, {ByMonthDay: []int{1, 2}}, {ByMonthDay: []int{2, 1}}, {BySetPos: []int{1, 2}}, {BySetPos: []int{2, 1}}, {BySetPos: []int{1, 2, 3}},
		{ByDay: []api.DayN{{N: 1}, {Day: 1}}}, {ByDay: []api.DayN{{Day: 1}, {N: 1}}}, {ByDay: []api.DayN{{Day: 1}, {Day: 1}}}, {ByDay: []api.DayN{{N: math.MaxInt, Day: math.MinInt}}}, {ByMonth: []int{1}, ByMonthDay: []int{1}},
		{Freq: 1, Interval: 1, Until: -1}, {Freq: 2, Interval: 1, Until: -1}, {Freq: 1, Interval: 2, Until: -1}, {Freq: 1, Interval: 1, Until: 0, Count: 1}, {Freq: 1, Interval: 1, Count: 1, Until: -1},
		{Freq: 4, Interval: 1, Until: -1, ByMonth: []int{1}, ByMonthDay: []int{1}, ByDay: []api.DayN{{N: 1, Day: 2}}, BySetPos: []int{1}, Start: 6},
		{Freq: 4, Interval: 1, Until: -1, ByMonth: []int{1}, ByMonthDay: []int{1}, ByDay: []api.DayN{{N: 1, Day: 3}}, BySetPos: []int{1}, Start: 6},
		{Freq: 4, Interval: 1, Until: -1, ByMonth: []int{1}, ByMonthDay: []int{1}, ByDay: []api.DayN{{N: 1, Day: 2}}, BySetPos: []int{-1}, Start: 6},
	}
}

// copied is a rule in memory of its own, with room behind its lists, and empty lists instead of nil ones.
func copied(r api.Rule) api.Rule {
	r.ByMonth = append(make([]int, 0, 9), r.ByMonth...)
	r.ByMonthDay = append(make([]int, 0, 9), r.ByMonthDay...)
	r.ByDay = append(make([]api.DayN, 0, 9), r.ByDay...)
	r.BySetPos = append(make([]int, 0, 9), r.BySetPos...)
	return r
}

func TestP9_1_Same(t *testing.T) {
	for i, a := range variants() {
		for j, b := range variants() {
			for _, x := range []api.Rule{a, copied(a)} {
				for _, y := range []api.Rule{b, copied(b)} {
					if rule.Same(x, y) != (i == j) {
						t.Errorf("Same(%+v, %+v): not %v", x, y, i == j)
					}
				}
			}
		}
	}
}

// TestP9_1_NilAsEmpty: R4 of the document.
func TestP9_1_NilAsEmpty(t *testing.T) {
	for _, r := range variants() {
		s, ok := rule.Text(r)
		if x, is := rule.Text(copied(r)); x != s || is != ok || rule.May(r) != rule.May(copied(r)) {
			t.Errorf("%+v: %q, %v, with empty lists %q, %v", r, s, ok, x, is)
		}
	}
}

// TestP9_1_NothingChangedOrKept: R3 of the document.
func TestP9_1_NothingChangedOrKept(t *testing.T) {
	for _, s := range someTexts() {
		r, ok := rule.Read(s)
		want, _ := readByWords(s)
		if !ok || !alike(r, want) {
			t.Fatalf("Read(%q): %+v, %v", s, r, ok)
		}
		kept := copied(r)
		rule.May(kept)
		rule.Same(kept, r)
		if text, ok := rule.Text(kept); text != s || !ok || !alike(kept, want) {
			t.Errorf("%q: told as %q, and changed to %+v", s, text, kept)
		}
		other, _ := rule.Read(s)
		for _, row := range [][]int{r.ByMonth, r.ByMonthDay, r.BySetPos} {
			for i := range row[:cap(row)] {
				row[:cap(row)][i] = 77
			}
		}
		for i := range r.ByDay[:cap(r.ByDay)] {
			r.ByDay[:cap(r.ByDay)][i] = api.DayN{N: 7, Day: 7}
		}
		again, ok := rule.Read(s)
		if !ok || !alike(again, want) || !alike(other, want) {
			t.Errorf("Read(%q), once what was read ahead was written into: %+v, %+v, %v", s, other, again, ok)
		}
	}
}

// TestP9_1_RowsApart: no two lists of one answer share memory.
func TestP9_1_RowsApart(t *testing.T) {
	s := "FREQ=YEARLY;BYMONTH=1,2,3;BYMONTHDAY=1,2,3;BYSETPOS=1,2,3"
	r, _ := rule.Read(s)
	for i, row := range []*[]int{&r.ByMonth, &r.ByMonthDay, &r.BySetPos} {
		for j := range *row {
			(*row)[j] += 4 + i
		}
		*row = append(*row, 12)
	}
	want := []string{"[5 6 7 12]", "[6 7 8 12]", "[7 8 9 12]"}
	for i, row := range [][]int{r.ByMonth, r.ByMonthDay, r.BySetPos} {
		if fmt.Sprint(row) != want[i] {
			t.Errorf("%d: %v, not %s", i, row, want[i])
		}
	}
}

// TestP9_1_SameAnswers: R5 of the document, with calls beside each other, too.
func TestP9_1_SameAnswers(t *testing.T) {
	var all sync.WaitGroup
	for range 8 {
		all.Go(func() {
			for range 200 {
				for _, s := range someTexts() {
					want, _ := readByWords(s)
					r, ok := rule.Read(s)
					if text, may := rule.Text(r); !ok || !may || text != s || !alike(r, want) {
						t.Errorf("Read(%q): %+v, %v, told as %q", s, r, ok, text)
					}
				}
			}
		})
	}
	all.Wait()
}

// rowOfSome is some of a row, in its order.
func rowOfSome[T any](r *rand.Rand, row []T) []T {
	var l []T
	some := r.Intn(len(row) + 1)
	for _, x := range row {
		if r.Intn(len(row)) < some && r.Intn(3) > 0 {
			l = append(l, x)
		}
	}
	return l
}

// someRule is one that may be.
func someRule(r *rand.Rand) api.Rule {
	x := api.Rule{Freq: 1 + r.Intn(4), Interval: 1, Until: -1}
	if r.Intn(2) == 0 {
		x.Interval = 1 + r.Intn(999)
	}
	switch r.Intn(3) {
	case 0:
		x.Count = r.Intn(5001)
	case 1:
		x.Until = r.Int63n(api.Minutes)
	}
	if r.Intn(2) == 0 {
		x.ByMonth = rowOfSome(r, from(1, 12))
	}
	if r.Intn(2) == 0 && x.Freq != api.Weekly {
		x.ByMonthDay = rowOfSome(r, from(-31, 31))
	}
	if r.Intn(2) == 0 {
		x.ByDay = rowOfSome(r, allDays()[35:42])
		if x.Freq == api.Monthly || x.Freq == api.Yearly && len(x.ByMonth) > 0 {
			x.ByDay = rowOfSome(r, allDays())
		}
	}
	if r.Intn(2) == 0 && len(x.ByMonth)+len(x.ByMonthDay)+len(x.ByDay) > 0 {
		x.BySetPos = rowOfSome(r, from(-366, 366))
	}
	if r.Intn(2) == 0 {
		x.Start = r.Intn(7)
	}
	return x
}

func TestP9_2_RulesThereAndBack(t *testing.T) {
	random := rand.New(rand.NewSource(9))
	rules := map[string]api.Rule{}
	for range 30000 {
		r := someRule(random)
		s, ok := rule.Text(r)
		back, is := rule.Read(s)
		if !ok || !is || !rule.Same(back, r) || !alike(back, r) {
			t.Fatalf("%+v: %q, %v; back %+v, %v", r, s, ok, back, is)
		}
		if other, told := rules[s]; told && !rule.Same(other, r) {
			t.Fatalf("%q is the text of %+v and of %+v", s, other, r)
		}
		rules[s] = r
	}
	if len(rules) < 20000 {
		t.Errorf("%d texts", len(rules))
	}
}

func TestP9_2_TextsThereAndBack(t *testing.T) {
	random := rand.New(rand.NewSource(10))
	read := 0
	for range 30000 {
		s := textByWords(someRule(random))
		r, ok := rule.Read(s)
		if back, is := rule.Text(r); !ok || !is || back != s {
			t.Fatalf("%q: %+v, %v; back %q, %v", s, r, ok, back, is)
		}
		// Any bytes that are read are written again as they stood.
		b := []byte(s)
		for range 1 + random.Intn(3) {
			i := random.Intn(len(b))
			b[i] = "0123456789-,;=TMOUWEHFRSA"[random.Intn(25)]
		}
		isRead(t, string(b))
		if _, ok := rule.Read(string(b)); ok {
			read++
		}
	}
	if read < 500 {
		t.Errorf("%d of the texts that were written into are read", read)
	}
}
