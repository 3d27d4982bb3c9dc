package hours_test

import (
	"fmt"
	"math"
	"math/rand"
	"slices"
	"sync"
	"testing"
	"time"

	"vespers/api"
	"vespers/clock"
	"vespers/hours"
	"vespers/zone"
)

// The tests hold the calls against the chapter's words, taken minute by minute: turns are gone through in order, and each minute of a window is asked for by itself; spans are the runs of those that are worked.

const (
	last   = api.Minutes - 1
	year   = 366 * 1440 // MaxWindow
	always = 127
)

// extremes are minutes that no call may stumble over.
var extremes = []int64{math.MinInt64, math.MinInt64 + 1, math.MinInt64 + year, math.MinInt64 + year + 1, math.MinInt32, -last, -1441, -1440, -901, -900, -1, 0, 1, 899, 900, 1440, last - 900, last, last + 1, last + 2, last + 901, last + 1441, math.MaxInt32, math.MaxInt64 - year - 1, math.MaxInt64 - year, math.MaxInt64 - 1, math.MaxInt64}

// faults are the chapter's words that hours break.
func faults(h api.Hours) []string {
	var l []string
	say := func(is bool, text string) {
		if is {
			l = append(l, text)
		}
	}
	say(len(h.Shifts) >= 11, "too many shifts")
	for _, s := range h.Shifts {
		say(s.Days <= 0 || s.Days >= 128, "Days")
		say(s.From <= -1 || s.From >= 1440, "From")
		say(s.To <= s.From, "To isn't above From")
		say(s.To >= 1441, "To")
	}
	say(len(h.Off) >= 61, "too many days off")
	for i, day := range h.Off {
		say(day <= -1 || day >= 109938, "no day of the calendar")
		say(i > 0 && day <= h.Off[i-1], "days off don't rise")
	}
	return l
}

// localByWords is the local time of a minute in a zone that may be.
func localByWords(z api.Zone, utc int64) int64 {
	added := z.Base
	for _, turn := range z.Turns {
		if turn.At <= utc {
			added = turn.Offset
		}
	}
	return utc + int64(added)
}

// worked tells whether a minute is worked, of hours and a zone that may be.
func worked(z api.Zone, h api.Hours, utc int64) bool {
	if utc < 0 || utc > last {
		return false
	}
	local := localByWords(z, utc)
	day := local / 1440
	if local%1440 < 0 {
		day--
	}
	for _, off := range h.Off {
		if int64(off) == day {
			return false
		}
	}
	weekday, minute := (day+70)%7, local-day*1440
	for _, s := range h.Shifts {
		set := s.Days
		for range weekday {
			set /= 2
		}
		if set%2 == 1 && minute >= int64(s.From) && minute < int64(s.To) {
			return true
		}
	}
	return false
}

// runs are the worked minutes of a window, as spans.
func runs(z api.Zone, h api.Hours, window api.Span) []api.Span {
	var row []api.Span
	if window.To <= window.From || window.From <= math.MaxInt64-year && window.To > window.From+year {
		return nil
	}
	ahead := false
	for utc := max(window.From, 0); utc < window.To && utc <= last; utc++ {
		is := worked(z, h, utc)
		switch {
		case is && ahead:
			row[len(row)-1].To++
		case is:
			row = append(row, api.Span{From: utc, To: utc + 1})
		}
		ahead = is
	}
	return row
}

// hasRuns asks for the spans of a window.
func hasRuns(t *testing.T, z api.Zone, h api.Hours, window api.Span) {
	t.Helper()
	want := runs(z, h, window)
	if got := hours.Spans(z, h, window); !slices.Equal(got, want) {
		t.Fatalf("Spans(%+v, %+v, %+v): %v, not %v", z, h, window, got, want)
	}
}

// has asks for the spans of a window as they are written out.
func has(t *testing.T, z api.Zone, h api.Hours, window api.Span, want ...api.Span) {
	t.Helper()
	if got := hours.Spans(z, h, window); !slices.Equal(got, want) {
		t.Errorf("Spans(%+v, %+v, %+v): %v, not %v", z, h, window, got, want)
	}
}

// works asks for each of some minutes whether it is worked.
func works(t *testing.T, z api.Zone, h api.Hours, minutes ...int64) {
	t.Helper()
	for _, utc := range minutes {
		if want := worked(z, h, utc); hours.Works(z, h, utc) != want {
			t.Fatalf("Works(%+v, %+v, %d): not %v", z, h, utc, want)
		}
	}
}

// none asks for all that is worked, where nothing is.
func none(t *testing.T, z api.Zone, h api.Hours) {
	t.Helper()
	for _, utc := range append([]int64{539, 540, 599, 600, 1979, 1980, 10079, 80640}, extremes...) {
		if hours.Works(z, h, utc) {
			t.Fatalf("Works(%.300s, %d): true", fmt.Sprintf("%+v, %+v", z, h), utc)
		}
	}
	for _, window := range []api.Span{{From: 0, To: year}, {From: -900, To: 20160}, {From: 540, To: 541}, {From: last - 20160, To: last + 2000}, {From: 700000, To: 720160}} {
		if l := hours.Spans(z, h, window); len(l) != 0 {
			t.Fatalf("Spans(%.300s, %+v): %v", fmt.Sprintf("%+v, %+v", z, h), window, l)
		}
	}
}

// stamp is the minute of a text.
func stamp(t *testing.T, text string) int64 {
	t.Helper()
	n, ok := clock.ReadStamp(text)
	if !ok {
		t.Fatalf("no stamp: %s", text)
	}
	return n
}

// whole are hours of all minutes of all days, but of some.
func whole(off ...int) api.Hours {
	return api.Hours{Shifts: []api.Shift{{Days: always, From: 0, To: 1440}}, Off: off}
}

// base are hours that may be.
func base() api.Hours {
	return api.Hours{Shifts: []api.Shift{{Days: 31, From: 540, To: 720}, {Days: 1, From: 600, To: 1020}}, Off: []int{1, 8}}
}

// rising are so many days from one on.
func rising(first, n int) []int {
	var row []int
	for i := range n {
		row = append(row, first+i)
	}
	return row
}

// edits are what may be written into hours: all of it at its edges, ahead of them and behind them.
func edits() []func(*api.Hours) {
	l := []func(*api.Hours){func(h *api.Hours) {}}
	ints := []int{math.MinInt, math.MinInt + 1, math.MinInt32, -128, -127, -1, 0, 1, 2, 64, 126, 127, 128, 129, 255, 539, 540, 541, 719, 720, 1438, 1439, 1440, 1441, 1 << 31, 1 << 32, 1<<32 + 1, math.MaxInt - 1, math.MaxInt}
	for _, n := range ints {
		l = append(l,
			func(h *api.Hours) { h.Shifts = append([]api.Shift{{Days: n, From: 1, To: 2}}, h.Shifts...) },
			func(h *api.Hours) { h.Shifts = append(h.Shifts, api.Shift{Days: n, From: 1, To: 2}) },
			func(h *api.Hours) { h.Shifts = []api.Shift{{Days: 1, From: n, To: 1440}} },
			func(h *api.Hours) { h.Shifts = []api.Shift{{Days: 1, From: 540, To: n}, {Days: 2, From: 3, To: 4}} },
			func(h *api.Hours) { h.Shifts = append(h.Shifts, api.Shift{Days: 1, From: 0, To: n}) },
			func(h *api.Hours) { h.Shifts = append(h.Shifts, api.Shift{Days: 1, From: n, To: n}) },
			func(h *api.Hours) { h.Shifts = append(h.Shifts, api.Shift{Days: 1, From: n, To: n + 1}) },
			func(h *api.Hours) { h.Off = []int{n} })
	}
	for _, n := range []int{0, 1, 9, 10, 11, 12, 1000} {
		many := make([]api.Shift, n)
		for i := range many {
			many[i] = api.Shift{Days: always, From: i % 7, To: 1440 - i%7}
		}
		l = append(l, func(h *api.Hours) { h.Shifts = many }, func(h *api.Hours) { h.Shifts = make([]api.Shift, n) })
	}
	for _, row := range [][]int{
		nil, {}, {0}, {109937}, {109938}, {-1}, {0, 109937}, {0, 109938}, {-1, 0}, {5, 6}, {5, 5}, {6, 5}, {1, 2, 2}, {1, 3, 2}, {2, 1, 3}, {0, 0}, {109937, 109937}, {math.MinInt, 5}, {5, math.MaxInt}, {math.MaxInt, math.MinInt},
		rising(0, 59), rising(0, 60), rising(0, 61), rising(109938-60, 60), rising(109939-60, 60), rising(109938-61, 61), rising(-1, 60), rising(0, 5000), make([]int, 60),
	} {
		l = append(l, func(h *api.Hours) { h.Off = row })
	}
	return l
}

// TestP12_1_May: each two edits.
func TestP12_1_May(t *testing.T) {
	all := edits()
	may, mayNot := 0, 0
	for i := range all {
		for j := range all {
			h := base()
			all[i](&h)
			all[j](&h)
			l := faults(h)
			if hours.May(h) != (len(l) == 0) {
				t.Fatalf("May(%.300s): not %v: %v", fmt.Sprintf("%+v", h), len(l) == 0, l)
			}
			if len(l) == 0 {
				may++
			} else {
				mayNot++
			}
		}
	}
	if may < 5000 || mayNot < 5000 {
		t.Errorf("%d may be, %d may not", may, mayNot)
	}
}

func TestP12_1_MayByHand(t *testing.T) {
	shift := func(days, from, to int) api.Hours {
		return api.Hours{Shifts: []api.Shift{{Days: days, From: from, To: to}}}
	}
	for i, h := range []api.Hours{{}, {Off: []int{0, 109937}}, whole(), base(), shift(1, 0, 1), shift(127, 1439, 1440), shift(64, 0, 1440),
		{Shifts: slices.Repeat([]api.Shift{{Days: 3, From: 5, To: 6}}, 10), Off: rising(100, 60)}} {
		if !hours.May(h) {
			t.Errorf("%d: may not be", i)
		}
	}
	for i, h := range []api.Hours{{Shifts: []api.Shift{{}}}, {Off: []int{109938}}, {Off: []int{3, 3}}, shift(0, 1, 2), shift(128, 1, 2), shift(-1, 1, 2), shift(1, -1, 2), shift(1, 1440, 1441), shift(1, 5, 5), shift(1, 6, 5), shift(1, 5, 1441), shift(1, math.MinInt, math.MaxInt),
		{Shifts: slices.Repeat([]api.Shift{{Days: 3, From: 5, To: 6}}, 11)}, {Off: rising(100, 61)}} {
		if hours.May(h) {
			t.Errorf("%d: may be", i)
		}
	}
}

// TestP12_1_HoursThatMayNotBe: no minute is worked, not even by a shift that may be.
func TestP12_1_HoursThatMayNotBe(t *testing.T) {
	asked := 0
	for _, edit := range edits() {
		h := whole()
		edit(&h)
		if len(faults(h)) == 0 {
			continue
		}
		asked++
		none(t, api.Zone{}, h)
		none(t, api.Zone{Base: 60, Turns: []api.Turn{{At: 5000, Offset: -60}}}, h)
	}
	if asked < 100 {
		t.Errorf("%d", asked)
	}
}

func TestP12_1_ZonesThatMayNotBe(t *testing.T) {
	for _, z := range []api.Zone{{Base: 901}, {Base: -901}, {Base: math.MinInt}, {Turns: []api.Turn{{At: -1}}}, {Turns: []api.Turn{{At: last + 2}}}, {Turns: []api.Turn{{At: 5000}, {At: 5000}}}, {Turns: []api.Turn{{At: 5000}, {At: 7879}}}, {Turns: []api.Turn{{At: 5000, Offset: 901}}}, {Turns: make([]api.Turn, 701)}} {
		none(t, z, whole())
		none(t, z, base())
	}
	none(t, api.Zone{}, api.Hours{})
	none(t, api.Zone{Base: 900}, api.Hours{Off: []int{5}})
}

// TestP12_1_ExampleOfTheChapter: from 540 to 1020 on weekdays; five spans in a week, wherever it begins.
func TestP12_1_ExampleOfTheChapter(t *testing.T) {
	h := api.Hours{Shifts: []api.Shift{{Days: 31, From: 540, To: 1020}}}
	has(t, api.Zone{}, h, api.Span{From: 0, To: 10080}, api.Span{From: 540, To: 1020}, api.Span{From: 1980, To: 2460}, api.Span{From: 3420, To: 3900}, api.Span{From: 4860, To: 5340}, api.Span{From: 6300, To: 6780})
	for day := int64(0); day < 109938-7; day += 1001 {
		if l := hours.Spans(api.Zone{}, h, api.Span{From: day * 1440, To: (day + 7) * 1440}); len(l) != 5 {
			t.Fatalf("%d: %v", day, l)
		}
	}
}

// TestP12_1_ClockOnTheWall: the fourth example of the whole: the clock is turned at one in the world's time, on the 30th of March and the 26th of October 2025, both Sundays.
func TestP12_1_ClockOnTheWall(t *testing.T) {
	z := api.Zone{Base: 60, Turns: []api.Turn{{At: stamp(t, "2025-03-30T01:00"), Offset: 120}, {At: stamp(t, "2025-10-26T01:00"), Offset: 60}}}
	h := api.Hours{Shifts: []api.Shift{{Days: 64 | 32 | 1, From: 90, To: 200}}}
	window := func(from, to string) api.Span { return api.Span{From: stamp(t, from), To: stamp(t, to)} }
	// Ahead of the turn, over it (what is jumped over isn't worked: an hour less), and behind it.
	has(t, z, h, window("2025-03-29T00:00", "2025-04-01T00:00"), window("2025-03-29T00:30", "2025-03-29T02:20"), window("2025-03-30T00:30", "2025-03-30T01:20"), window("2025-03-30T23:30", "2025-03-31T01:20"))
	// What comes twice is worked twice: an hour more.
	has(t, z, h, window("2025-10-24T23:00", "2025-10-27T06:00"), window("2025-10-24T23:30", "2025-10-25T01:20"), window("2025-10-25T23:30", "2025-10-26T02:20"), window("2025-10-27T00:30", "2025-10-27T02:20"))
	// A shift that ends within the hour that comes twice is there twice.
	h = api.Hours{Shifts: []api.Shift{{Days: 64, From: 90, To: 150}}}
	has(t, z, h, window("2025-10-25T12:00", "2025-10-26T12:00"), window("2025-10-25T23:30", "2025-10-26T00:30"), window("2025-10-26T01:00", "2025-10-26T01:30"))
	// One within the hour that is jumped over isn't there at all.
	h = api.Hours{Shifts: []api.Shift{{Days: 64, From: 120, To: 180}}}
	has(t, z, h, window("2025-03-29T12:00", "2025-03-30T12:00"))
}

// TestP12_1_DaysOutOfTheCalendar: local times ahead of it, and behind it, are on days with weekdays, but none of them is off.
func TestP12_1_DaysOutOfTheCalendar(t *testing.T) {
	east, west := api.Zone{Base: 900}, api.Zone{Base: -900}
	sunday, saturday, monday := api.Hours{Shifts: []api.Shift{{Days: 64, From: 0, To: 1440}}}, api.Hours{Shifts: []api.Shift{{Days: 32, From: 0, To: 1440}}}, api.Hours{Shifts: []api.Shift{{Days: 1, From: 0, To: 1440}}}
	begin, end := api.Span{From: -5000, To: 2000}, api.Span{From: last - 1999, To: last + 5000}
	// The day ahead of the calendar, a Sunday.
	has(t, west, sunday, begin, api.Span{From: 0, To: 900})
	has(t, west, saturday, begin)
	has(t, west, monday, begin, api.Span{From: 900, To: 2000})
	has(t, west, whole(0), begin, api.Span{From: 0, To: 900})
	// The 31st of December 2200 is a Wednesday; the day behind the calendar a Thursday.
	wednesday, thursday := api.Hours{Shifts: []api.Shift{{Days: 4, From: 0, To: 1440}}}, api.Hours{Shifts: []api.Shift{{Days: 8, From: 0, To: 1440}}}
	if w := time.Date(2200, time.December, 31, 0, 0, 0, 0, time.UTC).Weekday(); w != time.Wednesday {
		t.Fatal(w)
	}
	has(t, east, wednesday, end, api.Span{From: last - 1999, To: last - 899})
	has(t, east, thursday, end, api.Span{From: last - 899, To: last + 1})
	has(t, east, whole(109937), end, api.Span{From: last - 899, To: last + 1})
	has(t, api.Zone{}, wednesday, end, api.Span{From: last - 1439, To: last + 1})
	has(t, api.Zone{}, thursday, end)
	for _, h := range []api.Hours{sunday, saturday, monday, wednesday, thursday, whole(), whole(0), whole(109937), whole(0, 1, 2, 109935, 109936, 109937)} {
		for _, z := range []api.Zone{{}, east, west, {Base: -1}, {Base: 1}, {Base: -900, Turns: []api.Turn{{At: 0, Offset: 900}, {At: last + 1, Offset: -900}}}, {Base: -900, Turns: []api.Turn{{At: 300, Offset: 900}, {At: last - 300, Offset: -900}}}} {
			hasRuns(t, z, h, begin)
			hasRuns(t, z, h, end)
			for utc := int64(-1500); utc < 3000; utc++ {
				works(t, z, h, utc, last-utc)
			}
		}
	}
}

// TestP12_1_JoinedSpans: spans end and begin where the work does, whatever shifts, days and turns are between.
func TestP12_1_JoinedSpans(t *testing.T) {
	turned := api.Zone{Base: -77, Turns: []api.Turn{{At: 0, Offset: 5}, {At: 2880, Offset: 5}, {At: 5760, Offset: 900}, {At: 8640, Offset: -900}, {At: 11520, Offset: 0}}}
	window := api.Span{From: -1, To: 20000}
	has(t, turned, whole(), window, api.Span{From: 0, To: 20000})
	has(t, api.Zone{}, whole(), window, api.Span{From: 0, To: 20000})
	shifts := func(l ...api.Shift) api.Hours { return api.Hours{Shifts: l} }
	day, span := api.Span{From: 0, To: 2880}, func(from, to int64) api.Span { return api.Span{From: from, To: to} }
	for i, x := range []struct {
		h    api.Hours
		want []api.Span
	}{
		{shifts(api.Shift{Days: 1, From: 1, To: 5}, api.Shift{Days: 1, From: 5, To: 9}), []api.Span{span(1, 9)}},
		{shifts(api.Shift{Days: 1, From: 5, To: 9}, api.Shift{Days: 1, From: 1, To: 5}), []api.Span{span(1, 9)}},
		{shifts(api.Shift{Days: 1, From: 6, To: 9}, api.Shift{Days: 1, From: 1, To: 5}), []api.Span{span(1, 5), span(6, 9)}},
		{shifts(api.Shift{Days: 1, From: 1, To: 9}, api.Shift{Days: 1, From: 3, To: 5}), []api.Span{span(1, 9)}},
		{shifts(api.Shift{Days: 1, From: 1, To: 9}, api.Shift{Days: 1, From: 3, To: 5}, api.Shift{Days: 1, From: 7, To: 12}), []api.Span{span(1, 12)}},
		{shifts(api.Shift{Days: 1, From: 1, To: 5}, api.Shift{Days: 1, From: 1, To: 9}, api.Shift{Days: 1, From: 1, To: 3}), []api.Span{span(1, 9)}},
		{shifts(api.Shift{Days: 1, From: 1, To: 9}, api.Shift{Days: 2, From: 3, To: 12}), []api.Span{span(1, 9), span(1443, 1452)}},
		{shifts(api.Shift{Days: 1, From: 1400, To: 1440}, api.Shift{Days: 2, From: 0, To: 12}), []api.Span{span(1400, 1452)}},
		{shifts(api.Shift{Days: 2, From: 0, To: 12}, api.Shift{Days: 1, From: 1400, To: 1440}), []api.Span{span(1400, 1452)}},
		{shifts(api.Shift{Days: 1, From: 1400, To: 1440}, api.Shift{Days: 2, From: 1, To: 12}), []api.Span{span(1400, 1440), span(1441, 1452)}},
		{shifts(api.Shift{Days: 1, From: 1400, To: 1439}, api.Shift{Days: 2, From: 0, To: 12}), []api.Span{span(1400, 1439), span(1440, 1452)}},
		{shifts(api.Shift{Days: 3, From: 0, To: 1440}), []api.Span{span(0, 2880)}},
	} {
		if got := hours.Spans(api.Zone{}, x.h, day); !slices.Equal(got, x.want) {
			t.Errorf("%d: %v, not %v", i, got, x.want)
		}
		slices.Reverse(x.h.Shifts)
		has(t, api.Zone{}, x.h, day, x.want...)
	}
	// A clock that is put back to where the work begins, or ahead to where it ends.
	back := api.Zone{Turns: []api.Turn{{At: 600, Offset: -60}}}
	has(t, back, shifts(api.Shift{Days: 1, From: 540, To: 600}), day, span(540, 660))
	has(t, back, shifts(api.Shift{Days: 1, From: 541, To: 600}), day, span(541, 600), span(601, 660))
	ahead := api.Zone{Turns: []api.Turn{{At: 600, Offset: 60}}}
	has(t, ahead, shifts(api.Shift{Days: 1, From: 540, To: 660}), day, span(540, 600))
	has(t, ahead, shifts(api.Shift{Days: 1, From: 540, To: 661}), day, span(540, 601))
	has(t, ahead, shifts(api.Shift{Days: 1, From: 540, To: 570}, api.Shift{Days: 1, From: 660, To: 700}), day, span(540, 570), span(600, 640))
	has(t, ahead, shifts(api.Shift{Days: 1, From: 540, To: 610}, api.Shift{Days: 1, From: 650, To: 700}), day, span(540, 640))
	// A clock that is put back to the day ahead, of which one is off; and one that jumps over a day off from its midnight to the next one's.
	back = api.Zone{Turns: []api.Turn{{At: 1500, Offset: -120}}}
	has(t, back, whole(0), day, span(1440, 1500), span(1560, 2880))
	has(t, back, whole(1), day, span(0, 1440), span(1500, 1560))
	over := api.Zone{Base: -900, Turns: []api.Turn{{At: 2340, Offset: 540}}}
	has(t, over, whole(1), api.Span{From: 0, To: 5000}, span(0, 5000))
}

// TestP12_1_Windows: at the edges of time, as long as they may be, longer, and longer than numbers are.
func TestP12_1_Windows(t *testing.T) {
	h := base()
	h.Off = nil
	edges := slices.Clone(extremes)
	for _, n := range []int64{539, 540, 541, 719, 720, 721, 1019, 1020, 1021, year - 901, year - 1, year, year + 1, year + 2, last - year, last - year + 1, last - year + 2, last + 2} {
		edges = append(edges, n)
	}
	asked := 0
	for _, z := range []api.Zone{{}, {Base: 60}, {Base: -900}, {Base: 900, Turns: []api.Turn{{At: 540, Offset: -540}}}} {
		for _, from := range edges {
			for _, to := range edges {
				window := api.Span{From: from, To: to}
				want := runs(z, h, window)
				if len(want) > 0 {
					asked++
				}
				has(t, z, h, window, want...)
			}
		}
	}
	if asked < 200 {
		t.Errorf("%d", asked)
	}
	for _, from := range []int64{-year + 1, -1000, -1, 0, 1, 5000, last - year, last - year + 1, last - 5, last} {
		has(t, api.Zone{}, whole(), api.Span{From: from, To: from + year}, api.Span{From: max(from, 0), To: min(from+year, last+1)})
		has(t, api.Zone{}, whole(), api.Span{From: from, To: from + year + 1})
		has(t, api.Zone{}, whole(), api.Span{From: from, To: from})
		has(t, api.Zone{}, whole(), api.Span{From: from, To: from - 1})
	}
	has(t, api.Zone{}, whole(), api.Span{From: -year, To: 0})
	has(t, api.Zone{}, whole(), api.Span{From: last + 1, To: last + 1 + year})
	has(t, api.Zone{}, whole(), api.Span{From: math.MinInt64, To: math.MaxInt64})
	has(t, api.Zone{}, whole(), api.Span{From: math.MaxInt64, To: math.MinInt64})
	has(t, api.Zone{}, whole(), api.Span{From: math.MinInt64, To: 1})
	has(t, api.Zone{}, whole(), api.Span{From: 0, To: math.MaxInt64})
}

// TestP12_1_FewAndRising: a year with as many shifts, days off and turns as there may be.
func TestP12_1_FewAndRising(t *testing.T) {
	z := api.Zone{Base: 900}
	h := api.Hours{}
	for i := range 10 {
		h.Shifts = append(h.Shifts, api.Shift{Days: always ^ 1<<(i%7), From: 1300 - i*140, To: 1400 - i*140})
	}
	for i := range 60 {
		h.Off = append(h.Off, 40000+i*6)
	}
	for i := range int64(700) {
		z.Turns = append(z.Turns, api.Turn{At: 39990*1440 + i*2880, Offset: int(i*5%13)*150 - 900})
	}
	if !hours.May(h) || !zone.May(z) {
		t.Fatal("may not be")
	}
	for _, from := range []int64{40000 * 1440, 40000*1440 + 777, 39800*1440 + 1, 41200 * 1440} {
		hasRuns(t, z, h, api.Span{From: from, To: from + year})
		has(t, z, h, api.Span{From: from, To: from + year + 1})
	}
}

// TestP12_1_ByTheLibrarysCalendar: each minute of a day and all days, by the calendar of the library's time.
func TestP12_1_ByTheLibrarysCalendar(t *testing.T) {
	epoch := time.Date(1900, time.January, 1, 0, 0, 0, 0, time.UTC)
	h := api.Hours{Shifts: []api.Shift{{Days: 1 | 16, From: 480, To: 720}, {Days: 2, From: 0, To: 1}, {Days: 4, From: 1439, To: 1440}, {Days: 8 | 32, From: 600, To: 601}}}
	is := func(at time.Time) bool {
		minute := at.Hour()*60 + at.Minute()
		switch at.Weekday() {
		case time.Monday, time.Friday:
			return at.Hour() >= 8 && at.Hour() < 12
		case time.Tuesday:
			return minute == 0
		case time.Wednesday:
			return minute == 1439
		case time.Thursday, time.Saturday:
			return minute == 600
		}
		return false
	}
	for _, offset := range []int{0, 60, -900, 900} {
		for day := range int64(109938) {
			step := int64(479)
			if day < 10 || day%5000 == 0 || day > 109930 {
				step = 1
			}
			for utc := day * 1440; utc < day*1440+1440; utc += step {
				at := time.Unix(epoch.Unix()+(utc+int64(offset))*60, 0).UTC()
				if hours.Works(api.Zone{Base: offset}, h, utc) != is(at) {
					t.Fatalf("Works(base %d, %d): not %v", offset, utc, is(at))
				}
			}
		}
	}
}

// TestP12_1_DaysOff: by the library's calendar, some days by their numbers.
func TestP12_1_DaysOff(t *testing.T) {
	epoch := time.Date(1900, time.January, 1, 0, 0, 0, 0, time.UTC)
	var off []int
	for _, date := range []time.Time{time.Date(1900, 1, 1, 0, 0, 0, 0, time.UTC), time.Date(2000, 2, 29, 0, 0, 0, 0, time.UTC), time.Date(2025, 12, 25, 0, 0, 0, 0, time.UTC), time.Date(2025, 12, 26, 0, 0, 0, 0, time.UTC), time.Date(2200, 12, 31, 0, 0, 0, 0, time.UTC)} {
		off = append(off, int((date.Unix()-epoch.Unix())/86400))
	}
	if off[1] != 36583 {
		t.Fatal(off)
	}
	for i, day := range off {
		from := int64(day) * 1440
		window := api.Span{From: from - 3000, To: from + 4000}
		for _, offset := range []int64{0, 60, -60, 899} {
			z := api.Zone{Base: int(offset)}
			hasRuns(t, z, whole(off...), window)
			hasRuns(t, z, whole(off[i]), window)
			for _, utc := range []int64{from - offset - 1, from - offset, from - offset + 1439, from - offset + 1440} {
				works(t, z, whole(off...), utc)
			}
		}
	}
	has(t, api.Zone{}, whole(off...), api.Span{From: int64(off[2]-1) * 1440, To: int64(off[3]+2) * 1440}, api.Span{From: int64(off[2]-1) * 1440, To: int64(off[2]) * 1440}, api.Span{From: int64(off[3]+1) * 1440, To: int64(off[3]+2) * 1440})
}

// oneOf is one thing of a row.
func oneOf[T any](random *rand.Rand, l []T) T { return l[random.Intn(len(l))] }

// someHours are such that may be, with days off around a day.
func someHours(random *rand.Rand, around int64) api.Hours {
	var h api.Hours
	ends := []int{0, 1, 59, 60, 61, 480, 540, 541, 720, 1380, 1381, 1439, 1440}
	for range random.Intn(11) {
		s := api.Shift{Days: 1 + random.Intn(127), From: oneOf(random, ends), To: oneOf(random, ends)}
		if random.Intn(3) == 0 {
			s.Days = oneOf(random, []int{1, 31, 32, 64, 96, 127})
		}
		if random.Intn(3) == 0 {
			s.From, s.To = random.Intn(1440), random.Intn(1441)
		}
		if s.From < s.To {
			h.Shifts = append(h.Shifts, s)
		}
	}
	day := around - random.Int63n(12)
	for range random.Intn(9) {
		day += 1 + random.Int63n(4)*int64(random.Intn(2))
		if day >= 0 && day < 109938 {
			h.Off = append(h.Off, int(day))
		}
	}
	return h
}

// someZone has turns around a day, or none.
func someZone(random *rand.Rand, around int64) api.Zone {
	bases := []int{-900, -600, -61, -60, 0, 1, 60, 90, 900}
	z := api.Zone{Base: oneOf(random, bases)}
	at := (around-random.Int63n(8))*1440 + oneOf(random, []int64{0, 60, 540, 1439, random.Int63n(1440)})
	for range random.Intn(6) {
		if at >= 0 && at <= api.Minutes {
			z.Turns = append(z.Turns, api.Turn{At: at, Offset: oneOf(random, bases)})
		}
		at += 2880 + random.Int63n(2000)*int64(random.Intn(2))
	}
	return z
}

// someDay is one at the calendar's beginning, at its end, or between.
func someDay(random *rand.Rand) int64 {
	switch random.Intn(4) {
	case 0:
		return random.Int63n(6)
	case 1:
		return 109937 - random.Int63n(6)
	}
	return random.Int63n(109938)
}

// someWindow is one of some days around a day, from and to where something is, or beside it.
func someWindow(random *rand.Rand, z api.Zone, all []api.Span, around int64) api.Span {
	bounds := []int64{around * 1440, around*1440 + 540}
	for _, s := range all {
		bounds = append(bounds, s.From, s.To)
	}
	for _, turn := range z.Turns {
		bounds = append(bounds, turn.At)
	}
	window := api.Span{From: oneOf(random, bounds) + int64(random.Intn(3)-1), To: oneOf(random, bounds) + int64(random.Intn(3)-1)}
	if window.From > window.To && random.Intn(5) > 0 {
		window.From, window.To = window.To, window.From
	}
	return window
}

// TestP12_1_AgainstTheWords: any hours that may be, in zones with turns about them.
func TestP12_1_AgainstTheWords(t *testing.T) {
	random := rand.New(rand.NewSource(12))
	found := 0
	for range 3000 {
		day := someDay(random)
		z, h := someZone(random, day), someHours(random, day)
		if !hours.May(h) || !zone.May(z) {
			t.Fatalf("%+v, %+v: may not be: %v", h, z, faults(h))
		}
		around := api.Span{From: (day - 7) * 1440, To: (day + 9) * 1440}
		hasRuns(t, z, h, around)
		all := runs(z, h, around)
		found += len(all)
		for range 4 {
			hasRuns(t, z, h, someWindow(random, z, all, day))
		}
		for _, s := range all {
			works(t, z, h, s.From-1, s.From, s.To-1, s.To)
		}
		for _, turn := range z.Turns {
			works(t, z, h, turn.At-1, turn.At, turn.At+1)
		}
		works(t, z, h, extremes...)
		for range 20 {
			works(t, z, h, around.From+random.Int63n(16*1440))
		}
	}
	if found < 20000 {
		t.Errorf("%d found", found)
	}
}

// TestP12_1_WorksIsSpans: a minute is worked, just if it is in the spans of a window that has it.
func TestP12_1_WorksIsSpans(t *testing.T) {
	random := rand.New(rand.NewSource(13))
	for range 300 {
		day := someDay(random)
		z, h := someZone(random, day), someHours(random, day)
		row := hours.Spans(z, h, api.Span{From: (day - 3) * 1440, To: (day + 3) * 1440})
		place := 0
		for utc := (day - 3) * 1440; utc < (day+3)*1440; utc++ {
			for place < len(row) && row[place].To <= utc {
				place++
			}
			in := place < len(row) && row[place].From <= utc
			if hours.Works(z, h, utc) != in {
				t.Fatalf("Works(%+v, %+v, %d): not %v", z, h, utc, in)
			}
			minute := api.Span{From: utc, To: utc + 1}
			if in {
				has(t, z, h, minute, minute)
			} else {
				has(t, z, h, minute)
			}
		}
	}
}

// copied are hours in memory of their own, with room behind their lists, and empty lists instead of nil ones.
func copied(h api.Hours) api.Hours {
	return api.Hours{Shifts: append(make([]api.Shift, 0, 20), h.Shifts...), Off: append(make([]int, 0, 70), h.Off...)}
}

// withRoom are hours whose lists have the room behind them, too.
func withRoom(h api.Hours) api.Hours {
	return api.Hours{Shifts: h.Shifts[:cap(h.Shifts)], Off: h.Off[:cap(h.Off)]}
}

func same(a, b api.Hours) bool { return slices.Equal(a.Shifts, b.Shifts) && slices.Equal(a.Off, b.Off) }

// TestP12_1_NothingChangedOrKept: R3 of the document.
func TestP12_1_NothingChangedOrKept(t *testing.T) {
	random := rand.New(rand.NewSource(14))
	for range 300 {
		day := someDay(random)
		z, h := someZone(random, day), someHours(random, day)
		window := api.Span{From: (day - 5) * 1440, To: (day + 5) * 1440}
		turns := slices.Clone(z.Turns)
		given, as := copied(h), copied(h)
		row := hours.Spans(z, given, window)
		hours.May(given)
		hours.Works(z, given, day*1440)
		if !same(given, as) || !same(withRoom(given), withRoom(as)) || !slices.Equal(z.Turns, turns) {
			t.Fatalf("%+v was changed to %+v", withRoom(as), withRoom(given))
		}
		want := slices.Clone(row)
		for i := range withRoom(given).Shifts {
			withRoom(given).Shifts[i] = api.Shift{Days: -7}
		}
		for i := range withRoom(given).Off {
			withRoom(given).Off[i] = -7
		}
		if !slices.Equal(row, want) {
			t.Fatalf("%v, once the hours were written into, not %v", row, want)
		}
		for i := range row[:cap(row)] {
			row[:cap(row)][i] = api.Span{From: -7, To: -7}
		}
		has(t, z, h, window, want...)
	}
}

// TestP12_1_NilAsEmpty: R4 of the document.
func TestP12_1_NilAsEmpty(t *testing.T) {
	window := api.Span{From: 0, To: 10080}
	empty := api.Hours{Shifts: []api.Shift{}, Off: []int{}}
	if !hours.May(api.Hours{}) || !hours.May(empty) {
		t.Error("may not be")
	}
	for _, z := range []api.Zone{{Base: 60}, {Base: 60, Turns: []api.Turn{}}} {
		has(t, z, empty, window)
		has(t, z, api.Hours{}, window)
		has(t, z, copied(whole()), window, api.Span{From: 0, To: 10080})
		has(t, z, whole(), window, api.Span{From: 0, To: 10080})
		works(t, z, empty, 0, 540)
		works(t, z, copied(whole()), 0, 540)
	}
}

// TestP12_1_SameAnswers: R5 of the document, with calls beside each other.
func TestP12_1_SameAnswers(t *testing.T) {
	random := rand.New(rand.NewSource(15))
	for range 60 {
		day := someDay(random)
		z, h := someZone(random, day), someHours(random, day)
		window := api.Span{From: (day - 5) * 1440, To: (day + 5) * 1440}
		want, is := hours.Spans(z, h, window), hours.Works(z, h, day*1440+540)
		var all sync.WaitGroup
		for range 8 {
			all.Go(func() {
				if !slices.Equal(hours.Spans(z, h, window), want) || hours.Works(z, h, day*1440+540) != is || !hours.May(h) {
					t.Errorf("%+v: others beside each other", h)
				}
			})
		}
		all.Wait()
	}
}
