package event_test

import (
	"fmt"
	"maps"
	"math"
	"math/rand"
	"reflect"
	"slices"
	"sync"
	"testing"

	"vespers/api"
	"vespers/clock"
	"vespers/event"
	"vespers/recur"
	"vespers/rule"
	"vespers/zone"
)

// The tests hold the calls against the chapter's words, taken one by one: which events may be is told by what must not be, a rule's times are gone through from the start on, and each time's member is held against a window minute by minute's bounds.

var daily = api.Rule{Freq: api.Daily, Interval: 1, Until: -1}

// faults are the chapter's words that an event breaks.
func faults(e api.Event) []string {
	var l []string
	say := func(is bool, text string) {
		if is {
			l = append(l, text)
		}
	}
	r := e.Rule
	say(e.Start < 0 || e.Start > 158310719, "Start")
	say(e.Long <= 0 || e.Long >= 10081, "Long")
	if !e.Again {
		say(r.Freq != 0 || r.Interval != 0 || r.Count != 0 || r.Until != 0 || r.Start != 0, "Rule without Again")
		say(len(r.ByMonth) != 0 || len(r.ByMonthDay) != 0 || len(r.ByDay) != 0 || len(r.BySetPos) != 0, "Rule's rows without Again")
		say(len(e.Ex) != 0 || len(e.Plus) != 0 || len(e.Changes) != 0, "rows without Again")
		return l
	}
	say(e.World, "World with Again")
	say(!rule.May(r), "Rule")
	var ats []int64
	for _, c := range e.Changes {
		ats = append(ats, c.At)
		say(c.Start < 0 || c.Start > 158310719, "a change's Start")
		say(c.Long < 0 || c.Long >= 10081, "a change's Long")
	}
	for i, row := range [][]int64{e.Ex, e.Plus, ats} {
		if len(row) > 50 {
			say(true, fmt.Sprint("too many in the row ", i))
			continue
		}
		for j, at := range row {
			say(at < 0 || at > 158310719, fmt.Sprint("no minute in the row ", i))
			for _, ahead := range row[:j] {
				say(ahead >= at, fmt.Sprint("falls: the row ", i))
			}
		}
	}
	return l
}

// timesByWords are the times of an event that may be, ahead of a minute, by what they are.
func timesByWords(e api.Event, end int64) map[int64]int {
	times := map[int64]int{}
	if !e.Again {
		times[e.Start] = 1
		return times
	}
	for at := range recur.Times(e.Rule, e.Start) {
		if at >= end {
			break
		}
		times[at] = 1
	}
	for _, at := range e.Plus {
		times[at] = 1
	}
	for _, at := range e.Ex {
		delete(times, at)
	}
	return times
}

// membersByWords are the members of all of these times, in no order.
func membersByWords(z api.Zone, e api.Event, times map[int64]int) []api.Span {
	var row []api.Span
	for at := range times {
		start, long := at, int64(e.Long)
		for _, c := range e.Changes {
			if c.At == at {
				start, long = c.Start, int64(c.Long)
			}
		}
		utc, _, ok := zone.Utc(z, start)
		if e.World {
			utc, ok = start, true
		}
		if ok && long > 0 {
			row = append(row, api.Span{From: utc, To: utc + long})
		}
	}
	return row
}

// isLong tells whether a window that has a minute is longer than it may be.
func isLong(window api.Span) bool {
	return window.From <= math.MaxInt64-528480 && window.To > window.From+528480
}

// metByWords are those of members that meet a window, in their order.
func metByWords(all []api.Span, window api.Span) []api.Span {
	var row []api.Span
	if window.To <= window.From || isLong(window) {
		return nil
	}
	for _, m := range all {
		// The first minute that both may have is in both, or there is none.
		if first := max(m.From, window.From); first < m.To && first < window.To {
			row = append(row, m)
		}
	}
	slices.SortFunc(row, func(a, b api.Span) int {
		if a.From < b.From || a.From == b.From && a.To < b.To {
			return -1
		}
		if a == b {
			return 0
		}
		return 1
	})
	return row
}

// hasMembers asks for the members of a window, of all there are.
func hasMembers(t *testing.T, z api.Zone, e api.Event, window api.Span, all []api.Span) {
	t.Helper()
	want := metByWords(all, window)
	if got := event.Members(z, e, window); !slices.Equal(got, want) {
		t.Fatalf("Members(%+v, %+v, %+v): %v, not %v", z, e, window, got, want)
	}
}

// has asks for the members of a window as they are written out.
func has(t *testing.T, z api.Zone, e api.Event, window api.Span, want ...api.Span) {
	t.Helper()
	if got := event.Members(z, e, window); !slices.Equal(got, want) {
		t.Errorf("Members(%+v, %+v, %+v): %v, not %v", z, e, window, got, want)
	}
}

// hasTimes asks for which of some local times are among an event's.
func hasTimes(t *testing.T, e api.Event, times map[int64]int, asked ...int64) {
	t.Helper()
	for _, at := range asked {
		if is := times[at] == 1; event.At(e, at) != is {
			t.Fatalf("At(%+v, %d): not %v", e, at, is)
		}
	}
}

// read is the rule of a text.
func read(t *testing.T, text string) api.Rule {
	t.Helper()
	r, ok := rule.Read(text)
	if !ok {
		t.Fatalf("no rule: %s", text)
	}
	return r
}

// stamp is the minute of a text.
func stamp(t *testing.T, text string) int64 {
	t.Helper()
	n, ok := clock.ReadStamp(text)
	if !ok {
		t.Fatalf("no stamp: %s", text)
	}
	return n
}

// rising are so many minutes from one on, one behind the other.
func rising(first int64, n int) []int64 {
	var row []int64
	for i := range n {
		row = append(row, first+int64(i))
	}
	return row
}

// changesAt are changes of some times, all to one minute, so long.
func changesAt(ats []int64, start int64, long int) []api.Change {
	var row []api.Change
	for _, at := range ats {
		row = append(row, api.Change{At: at, Start: start, Long: long})
	}
	return row
}

// base is an event that may be, without Again or with it.
func base(again bool) api.Event {
	if !again {
		return api.Event{Start: 540, Long: 60}
	}
	return api.Event{Start: 540, Long: 60, Again: true, Rule: daily, Ex: []int64{1980}, Plus: []int64{600, 3420}, Changes: []api.Change{{At: 3420, Start: 100, Long: 5}}}
}

const last = api.Minutes - 1

// edits are what may be written into an event: all of it at its edges, ahead of them and behind them.
func edits() []func(*api.Event) {
	l := []func(*api.Event){
		func(e *api.Event) {}, func(e *api.Event) { e.World = true }, func(e *api.Event) { e.Again = true }, func(e *api.Event) { e.Again = false },
		func(e *api.Event) { e.Rule = api.Rule{} }, func(e *api.Event) { e.Rule = daily },
		func(e *api.Event) { e.Rule.Freq = 1 }, func(e *api.Event) { e.Rule.Freq = 5 }, func(e *api.Event) { e.Rule.Interval = 1 }, func(e *api.Event) { e.Rule.Interval = 1000 },
		func(e *api.Event) { e.Rule.Count = 1 }, func(e *api.Event) { e.Rule.Until = -1 }, func(e *api.Event) { e.Rule.Until = 0 }, func(e *api.Event) { e.Rule.Until = -2 }, func(e *api.Event) { e.Rule.Start = 1 }, func(e *api.Event) { e.Rule.Start = 7 },
		func(e *api.Event) { e.Rule.ByMonth = []int{1} }, func(e *api.Event) { e.Rule.ByMonthDay = []int{-1} }, func(e *api.Event) { e.Rule.ByDay = []api.DayN{{}} }, func(e *api.Event) { e.Rule.ByDay = []api.DayN{{N: 1}} }, func(e *api.Event) { e.Rule.BySetPos = []int{1} },
		func(e *api.Event) { e.Rule.ByMonth = []int{} }, func(e *api.Event) { e.Rule.ByDay = []api.DayN{} },
	}
	for _, n := range []int64{math.MinInt64, -1, 0, 1, last - 1, last, last + 1, math.MaxInt64} {
		l = append(l, func(e *api.Event) { e.Start = n },
			func(e *api.Event) { e.Changes = []api.Change{{At: 540, Start: n, Long: 1}} },
			func(e *api.Event) { e.Changes = []api.Change{{At: 1, Start: 1, Long: 1}, {At: 2, Start: n}} })
	}
	for _, n := range []int{math.MinInt, -1, 0, 1, 10079, 10080, 10081, math.MaxInt} {
		l = append(l, func(e *api.Event) { e.Long = n },
			func(e *api.Event) { e.Changes = []api.Change{{At: 540, Start: 1, Long: n}} },
			func(e *api.Event) { e.Changes = []api.Change{{At: 1, Start: 1}, {At: 540, Start: 1, Long: n}} })
	}
	for _, row := range [][]int64{
		nil, {}, {0}, {last}, {-1}, {last + 1}, {math.MinInt64}, {math.MaxInt64}, {0, last}, {540, 541}, {540, 540}, {541, 540}, {1, 2, 2}, {1, 3, 2}, {2, 1, 3}, {-1, 0}, {last, last + 1}, {math.MaxInt64, math.MinInt64},
		rising(0, 49), rising(0, 50), rising(0, 51), rising(last-49, 50), rising(last-49, 51), rising(-1, 50), rising(0, 3000), make([]int64, 2), make([]int64, 51),
	} {
		changes := changesAt(row, 7, len(row)%2)
		l = append(l, func(e *api.Event) { e.Ex = row }, func(e *api.Event) { e.Plus = row }, func(e *api.Event) { e.Changes = changes })
	}
	return l
}

// TestP11_1_May: each two edits, of an event without Again and of one with it.
func TestP11_1_May(t *testing.T) {
	all := edits()
	may := 0
	for _, again := range []bool{false, true} {
		for i := range all {
			for j := range all {
				e := base(again)
				all[i](&e)
				all[j](&e)
				l := faults(e)
				if event.May(e) != (len(l) == 0) {
					t.Fatalf("May(%.300s): not %v: %v", fmt.Sprintf("%+v", e), len(l) == 0, l)
				}
				if len(l) == 0 {
					may++
				}
			}
		}
	}
	if may < 2000 {
		t.Errorf("%d may be", may)
	}
}

func TestP11_1_MayByHand(t *testing.T) {
	hundred := api.Event{Start: last, Long: 10080, Again: true, Rule: daily, Ex: rising(0, 50), Plus: rising(last-49, 50), Changes: changesAt(rising(20, 50), 0, 0)}
	for i, e := range []api.Event{{Long: 1}, {Start: last, Long: 10080, World: true}, {Start: 1, Long: 1, Again: true, Rule: daily}, base(false), base(true), hundred,
		{Start: 1, Long: 1, Ex: []int64{}, Plus: []int64{}, Changes: []api.Change{}, Rule: api.Rule{ByMonth: []int{}, ByMonthDay: []int{}, ByDay: []api.DayN{}, BySetPos: []int{}}}} {
		if !event.May(e) {
			t.Errorf("%d: may not be", i)
		}
	}
	for i, e := range []api.Event{{}, {Again: true}, {Start: 1, Long: 1, Rule: api.Rule{Until: -1}}, {Start: 1, Long: 1, World: true, Rule: daily}, {Start: 1, Long: 1, World: true, Again: true, Rule: daily}, {Start: 1, Long: 1, Changes: []api.Change{{}}}} {
		if event.May(e) {
			t.Errorf("%d: may be", i)
		}
	}
}

// TestP11_1_EventsThatMayNotBe: they have no times, and no members.
func TestP11_1_EventsThatMayNotBe(t *testing.T) {
	asked := 0
	for _, again := range []bool{false, true} {
		for _, edit := range edits() {
			e := base(again)
			edit(&e)
			if len(faults(e)) == 0 {
				continue
			}
			asked++
			hasTimes(t, e, nil, math.MinInt64, -1, 0, 1, 540, 600, 1980, 3420, last, last+1, math.MaxInt64, e.Start)
			for _, window := range []api.Span{{From: 0, To: 528480}, {From: -900, To: 5000}, {From: last - 5000, To: last + 10080}} {
				has(t, api.Zone{}, e, window)
			}
		}
	}
	if asked < 100 {
		t.Errorf("%d", asked)
	}
}

func TestP11_1_ZonesThatMayNotBe(t *testing.T) {
	window := api.Span{From: 0, To: 528480}
	world := base(false)
	world.World = true
	for _, z := range []api.Zone{{Base: 901}, {Base: -901}, {Turns: []api.Turn{{At: -1}}}, {Turns: []api.Turn{{At: 5000}, {At: 5000}}}, {Turns: []api.Turn{{At: 5000, Offset: math.MinInt}}}, {Turns: make([]api.Turn, 701)}} {
		for _, e := range []api.Event{base(false), base(true), world} {
			if len(event.Members(api.Zone{}, e, window)) == 0 {
				t.Errorf("%+v has no members", e)
			}
			has(t, z, e, window)
		}
	}
}

// TestP11_1_ExamplesOfTheDocument: the chapter's, and the fifth one of the whole.
func TestP11_1_ExamplesOfTheDocument(t *testing.T) {
	e := api.Event{Start: 540, Long: 60, Again: true, Rule: daily, Changes: []api.Change{{At: 1980, Start: 1980}}}
	has(t, api.Zone{}, e, api.Span{From: 0, To: 4320}, api.Span{From: 540, To: 600}, api.Span{From: 3420, To: 3480})
	// The 31st of March 2025 is a Monday; the clock was turned a day ahead, and is turned back on the 26th of October.
	z := api.Zone{Base: 60, Turns: []api.Turn{{At: stamp(t, "2025-03-30T01:00"), Offset: 120}, {At: stamp(t, "2025-10-26T01:00"), Offset: 60}}}
	e = api.Event{Start: stamp(t, "2025-03-31T09:00"), Long: 30, Again: true, Rule: read(t, "FREQ=WEEKLY;BYDAY=MO,TU,WE,TH,FR")}
	spans := func(texts ...string) []api.Span {
		var l []api.Span
		for _, text := range texts {
			from := stamp(t, text)
			l = append(l, api.Span{From: from, To: from + 30})
		}
		return l
	}
	has(t, z, e, api.Span{From: stamp(t, "2025-03-20T00:00"), To: stamp(t, "2025-04-02T00:00")}, spans("2025-03-31T07:00", "2025-04-01T07:00")...)
	has(t, z, e, api.Span{From: stamp(t, "2025-10-23T00:00"), To: stamp(t, "2025-10-29T00:00")}, spans("2025-10-23T07:00", "2025-10-24T07:00", "2025-10-27T08:00", "2025-10-28T08:00")...)
}

// TestP11_1_GapAndFold: a time over which the clock jumps is at the minute that zone.Utc tells, one that is twice at the first one.
func TestP11_1_GapAndFold(t *testing.T) {
	z := api.Zone{Base: 60, Turns: []api.Turn{{At: 1000000, Offset: 120}, {At: 1100000, Offset: 60}}}
	window := api.Span{From: 990000, To: 1200000}
	for local, from := range map[int64]int64{1000059: 999999, 1000060: 1000000, 1000100: 1000040, 1000119: 1000059, 1000120: 1000000, 1100059: 1099939, 1100060: 1099940, 1100119: 1099999, 1100120: 1100060} {
		// As long as it is in the world's time, whatever the clock shows.
		for _, long := range []int{1, 60, 3000} {
			has(t, z, api.Event{Start: local, Long: long}, window, api.Span{From: from, To: from + int64(long)})
			has(t, z, api.Event{Start: local, Long: long, World: true}, window, api.Span{From: local, To: local + int64(long)})
		}
	}
}

// TestP11_1_TimesOfNoMinute: a time that comes of no minute in time has no member; others of the same event have.
func TestP11_1_TimesOfNoMinute(t *testing.T) {
	east, west := api.Zone{Base: 60}, api.Zone{Base: -60}
	whole, end := api.Span{From: -1000, To: 5000}, api.Span{From: last - 5000, To: last + 20000}
	has(t, east, api.Event{Start: 59, Long: 100}, whole)
	has(t, east, api.Event{Start: 60, Long: 100}, whole, api.Span{From: 0, To: 100})
	has(t, east, api.Event{Start: 59, Long: 100, World: true}, whole, api.Span{From: 59, To: 159})
	has(t, west, api.Event{Start: last - 59, Long: 100}, end, api.Span{From: last + 1, To: last + 101})
	has(t, west, api.Event{Start: last - 58, Long: 100}, end)
	has(t, west, api.Event{Start: last, Long: 10080, World: true}, end, api.Span{From: last, To: last + 10080})
	e := api.Event{Start: 30, Long: 10, Again: true, Rule: daily, Changes: []api.Change{{At: 1470, Start: 59, Long: 7}, {At: 2910, Start: 61, Long: 7}}}
	has(t, east, e, api.Span{From: -1000, To: 4400}, api.Span{From: 1, To: 8}, api.Span{From: 4290, To: 4300})
	e = api.Event{Start: last - 20 - 1440, Long: 10, Again: true, Rule: daily}
	has(t, west, e, end, api.Span{From: last + 40 - 1440, To: last + 50 - 1440})
}

// TestP11_1_WorldIsAtItsMinute: in all zones.
func TestP11_1_WorldIsAtItsMinute(t *testing.T) {
	for _, start := range []int64{0, 1, 899, 5000, 100000, last - 900, last} {
		e := api.Event{Start: start, Long: 45, World: true}
		for _, z := range []api.Zone{{}, {Base: 900}, {Base: -900}, {Base: 60, Turns: []api.Turn{{At: 0, Offset: 900}, {At: 4900, Offset: -900}}}} {
			has(t, z, e, api.Span{From: start - 300, To: start + 300}, api.Span{From: start, To: start + 45})
			has(t, z, e, api.Span{From: start - 300, To: start})
			has(t, z, e, api.Span{From: start + 45, To: start + 300})
		}
		hasTimes(t, e, map[int64]int{start: 1}, start-1, start, start+1)
	}
}

// TestP11_1_ExPlusChanges: what each of them does to the same times.
func TestP11_1_ExPlusChanges(t *testing.T) {
	window := api.Span{From: 0, To: 5760}
	span := func(from, long int64) api.Span { return api.Span{From: from, To: from + long} }
	day := []api.Span{span(540, 60), span(1980, 60), span(3420, 60), span(4860, 60)}
	with := func(ex, plus []int64, changes ...api.Change) api.Event {
		return api.Event{Start: 540, Long: 60, Again: true, Rule: daily, Ex: ex, Plus: plus, Changes: changes}
	}
	has(t, api.Zone{}, with(nil, nil), window, day...)
	// What isn't a time is no time less; what is one already is it once.
	has(t, api.Zone{}, with([]int64{541, 1979}, []int64{540, 1980}), window, day...)
	has(t, api.Zone{}, with([]int64{540, 4860}, nil), window, day[1], day[2])
	has(t, api.Zone{}, with(nil, []int64{0, 3000}), window, span(0, 60), day[0], day[1], span(3000, 60), day[2], day[3])
	// Ex stands above Plus.
	has(t, api.Zone{}, with([]int64{540, 3000}, []int64{540, 3000}), window, day[1:]...)
	// A change of no time does nothing, nor one of a time that Ex takes.
	has(t, api.Zone{}, with([]int64{1980}, nil, api.Change{At: 541, Start: 1, Long: 1}, api.Change{At: 1980, Start: 2, Long: 2}), window, day[0], day[2], day[3])
	has(t, api.Zone{}, with([]int64{600}, []int64{600}, api.Change{At: 600, Start: 1, Long: 1}), window, day...)
	// A change of a time that Plus brings, alone, or beside the rule.
	has(t, api.Zone{}, with(nil, []int64{600}, api.Change{At: 600, Start: 1, Long: 1}), window, append([]api.Span{span(1, 1)}, day...)...)
	has(t, api.Zone{}, with(nil, []int64{540}, api.Change{At: 540, Start: 1, Long: 1}), window, append([]api.Span{span(1, 1)}, day[1:]...)...)
	has(t, api.Zone{}, with(nil, []int64{540}, api.Change{At: 540, Start: 3000}), window, day[1:]...)
	// A changed time doesn't come to be where another one is: there are two then; nor does it take Ex along, nor is it changed again.
	has(t, api.Zone{}, with(nil, nil, api.Change{At: 540, Start: 1980, Long: 60}), window, day[1], day[1], day[2], day[3])
	has(t, api.Zone{}, with([]int64{600}, nil, api.Change{At: 540, Start: 600, Long: 60}), window, span(600, 60), day[1], day[2], day[3])
	has(t, api.Zone{}, with(nil, nil, api.Change{At: 540, Start: 1980, Long: 60}, api.Change{At: 1980, Start: 540, Long: 30}), window, span(540, 30), day[1], day[2], day[3])
	// By From, then by To.
	has(t, api.Zone{}, with(nil, nil, api.Change{At: 540, Start: 4860, Long: 61}, api.Change{At: 1980, Start: 4860, Long: 59}, api.Change{At: 3420, Start: 4859, Long: 1000}), window, span(4859, 1000), span(4860, 59), day[3], span(4860, 61))
	// Changed to the same, or to another length at the same time.
	has(t, api.Zone{}, with(nil, nil, api.Change{At: 540, Start: 540, Long: 60}, api.Change{At: 1980, Start: 1980, Long: 10080}), window, day[0], span(1980, 10080), day[2], day[3])
}

// TestP11_1_Alike: several times, of which each makes the same span.
func TestP11_1_Alike(t *testing.T) {
	// The clock jumps from 1000 to 1060: the first of these times is in the gap, and both are at the turn.
	z := api.Zone{Turns: []api.Turn{{At: 1000, Offset: 60}}}
	e := api.Event{Start: 1000, Long: 5, Again: true, Rule: read(t, "FREQ=DAILY;COUNT=1"), Plus: []int64{1060}}
	has(t, z, e, api.Span{From: 0, To: 2000}, api.Span{From: 1000, To: 1005}, api.Span{From: 1000, To: 1005})
	ats := rising(100, 50)
	e = api.Event{Start: 540, Long: 5, Again: true, Rule: read(t, "FREQ=DAILY;COUNT=1"), Plus: ats}
	for _, at := range ats {
		e.Changes = append(e.Changes, api.Change{At: at, Start: 540, Long: 5})
	}
	has(t, api.Zone{}, e, api.Span{From: 544, To: 545}, slices.Repeat([]api.Span{{From: 540, To: 545}}, 51)...)
	has(t, api.Zone{}, e, api.Span{From: 545, To: 546})
	has(t, api.Zone{}, e, api.Span{From: 539, To: 540})
}

// TestP11_1_Windows: all edges beside each other, also out of time, and such as are longer than numbers are.
func TestP11_1_Windows(t *testing.T) {
	edges := []int64{math.MinInt64, math.MinInt64 + 1, math.MinInt64 + 528480, math.MinInt64 + 528481, -528481, -528480, -1, 0, 1, 539, 540, 599, 600, 601, 1980, 528479, 528480, 528481, 529020, 529021, last - 528480, last - 528479, last - 899, last - 60, last, last + 1, last + 61, last + 901, last + 10081, last + 528480, math.MaxInt64 - 528481, math.MaxInt64 - 528480, math.MaxInt64 - 1, math.MaxInt64}
	events := []api.Event{
		{Start: 540, Long: 60}, {Start: 540, Long: 60, World: true}, {Start: last, Long: 10080}, {Long: 1}, {Start: 540, Long: 60, Again: true, Rule: api.Rule{Freq: 1, Interval: 30, Until: -1}},
		{Start: last - 200000, Long: 10080, Again: true, Rule: api.Rule{Freq: 2, Interval: 3, Until: -1}, Plus: []int64{0, 540, last}, Changes: []api.Change{{At: 540, Start: last, Long: 1}, {At: last, Start: 1, Long: 10080}}},
	}
	for _, z := range []api.Zone{{}, {Base: 60}, {Base: -900}, {Base: 900}} {
		for _, e := range events {
			all := membersByWords(z, e, timesByWords(e, api.Minutes))
			for _, from := range edges {
				for _, to := range edges {
					hasMembers(t, z, e, api.Span{From: from, To: to}, all)
				}
			}
		}
	}
}

// TestP11_1_LongestWindow: a day with an event of a week each, in a window as long as it may be.
func TestP11_1_LongestWindow(t *testing.T) {
	e := api.Event{Start: 540, Long: 10080, Again: true, Rule: daily}
	all := membersByWords(api.Zone{}, e, timesByWords(e, api.Minutes))
	most := 0
	for from := int64(100000); from < 100000+1440; from++ {
		window := api.Span{From: from, To: from + 528480}
		hasMembers(t, api.Zone{}, e, window, all)
		most = max(most, len(event.Members(api.Zone{}, e, window)))
		has(t, api.Zone{}, e, api.Span{From: from, To: from + 528481})
	}
	if most != 374 {
		t.Errorf("%d members at most", most)
	}
}

// TestP11_1_FarChanges: a change may lead from any time to any minute, with a Count, an Until, or neither.
func TestP11_1_FarChanges(t *testing.T) {
	early, late := stamp(t, "1900-01-03T08:00"), stamp(t, "2200-12-30T08:00")
	for _, text := range []string{"FREQ=DAILY", "FREQ=DAILY;UNTIL=22001230T0800", "FREQ=WEEKLY;BYDAY=MO,TU,WE,TH,FR,SA,SU", "FREQ=DAILY;COUNT=3"} {
		e := api.Event{Start: early, Long: 30, Again: true, Rule: read(t, text), Changes: []api.Change{{At: early + 1440, Start: last - 5, Long: 20}, {At: late, Start: 0, Long: 20}, {At: late + 1440, Start: 30, Long: 20}}}
		all := membersByWords(api.Zone{}, e, timesByWords(e, api.Minutes))
		for _, window := range []api.Span{{From: 0, To: 1440}, {From: last - 1440, To: last}, {From: last - 6000, To: last + 1}, {From: early, To: early + 1500}, {From: late, To: late + 1}} {
			hasMembers(t, api.Zone{}, e, window, all)
		}
		hasTimes(t, e, timesByWords(e, api.Minutes), 0, early, early+1440, late, late+1440, last-5, last)
	}
}

// oneOf is one thing of a row.
func oneOf[T any](random *rand.Rand, l []T) T { return l[random.Intn(len(l))] }

// ruleTexts are rules of all kinds.
var ruleTexts = []string{
	"FREQ=DAILY", "FREQ=DAILY;INTERVAL=2", "FREQ=DAILY;INTERVAL=9;COUNT=40", "FREQ=DAILY;COUNT=5", "FREQ=DAILY;BYMONTHDAY=-1,1,2", "FREQ=WEEKLY", "FREQ=WEEKLY;INTERVAL=2;COUNT=20;BYDAY=MO,WE,SU;WKST=SU", "FREQ=WEEKLY;BYDAY=TU,SA",
	"FREQ=MONTHLY", "FREQ=MONTHLY;COUNT=9;BYDAY=-1FR,1MO", "FREQ=MONTHLY;BYDAY=MO,TU,WE,TH,FR;BYSETPOS=-1,1", "FREQ=YEARLY;BYMONTH=1,7;BYMONTHDAY=-1,15", "FREQ=YEARLY",
}

// someZone has turns around a minute, or none.
func someZone(random *rand.Rand, around int64) api.Zone {
	bases := []int{-900, -61, -60, 0, 60, 90, 900}
	z := api.Zone{Base: oneOf(random, bases)}
	at := around - random.Int63n(20*1440)
	for range random.Intn(5) {
		if at >= 0 && at <= api.Minutes {
			z.Turns = append(z.Turns, api.Turn{At: at, Offset: oneOf(random, bases)})
		}
		at += 2880 + random.Int63n(20*1440)*int64(random.Intn(2))
	}
	return z
}

// someMinutes are at most so many, rising, most of them of a pool, in which they stand, or beside.
func someMinutes(random *rand.Rand, pool []int64, most int) []int64 {
	set := map[int64]int{}
	for range random.Intn(most + 1) {
		at := oneOf(random, pool) + int64(oneOf(random, []int{0, 0, 0, 0, 1, -1, 60, -1440}))
		set[min(max(at, 0), last)] = 1
	}
	return slices.Sorted(maps.Keys(set))
}

// someEvent is one that may be, whose rows meet each other and the rule's times on days from a start on.
func someEvent(random *rand.Rand, start int64, days int64) api.Event {
	longs := []int{1, 2, 60, 719, 1440, 1441, 5000, 10079, 10080}
	e := api.Event{Start: start, Long: oneOf(random, longs)}
	if random.Intn(12) == 0 {
		e.World = random.Intn(2) == 0
		return e
	}
	e.Again = true
	e.Rule, _ = rule.Read(oneOf(random, ruleTexts))
	if e.Rule.Count == 0 && random.Intn(3) == 0 {
		e.Rule.Until = min(start+random.Int63n(days*1440), last)
	}
	pool := []int64{start}
	for at := range recur.Times(e.Rule, start) {
		if at >= start+days*1440 {
			break
		}
		pool = append(pool, at)
	}
	for range 5 {
		pool = append(pool, start-5*1440+random.Int63n(days*1440))
	}
	most := oneOf(random, []int{0, 3, 10, 50})
	e.Plus = someMinutes(random, pool, most)
	e.Ex = someMinutes(random, append(pool, e.Plus...), most)
	for _, at := range someMinutes(random, append(append(pool, e.Plus...), e.Ex...), most) {
		e.Changes = append(e.Changes, api.Change{At: at, Start: min(max(oneOf(random, pool)+int64(random.Intn(3)*random.Intn(1000)), 0), last), Long: oneOf(random, append(longs, 0, 0, e.Long))})
	}
	return e
}

// someStart is a stamp at the calendar's beginning, at its end, or between.
func someStart(random *rand.Rand) int64 {
	minute := oneOf(random, []int64{0, 1, 59, 60, 540, 720, 1439})
	switch random.Intn(4) {
	case 0:
		return random.Int63n(12)*1440 + minute
	case 1:
		return (109937-random.Int63n(12))*1440 + minute
	}
	return random.Int63n(109938)*1440 + minute
}

// windowsAround are windows whose bounds are at, and beside, those of members, or anywhere.
func windowsAround(random *rand.Rand, all []api.Span, start, days int64) []api.Span {
	bounds := []int64{start, start + days*1440/2}
	for _, m := range all {
		bounds = append(bounds, m.From, m.To)
	}
	var l []api.Span
	for range 12 {
		from := oneOf(random, bounds) + int64(random.Intn(3)-1)
		if random.Intn(4) == 0 {
			from = start - 20*1440 + random.Int63n((days+30)*1440)
		}
		to := oneOf(random, bounds) + int64(random.Intn(3)-1)
		if random.Intn(2) == 0 {
			to = from + oneOf(random, []int64{-1, 0, 1, 2, 60, 1440, 10080, 100000, 528479, 528480, 528481})
		}
		l = append(l, api.Span{From: from, To: to})
	}
	return l
}

// TestP11_1_AgainstTheWords: any events that may be, in zones with turns about them.
func TestP11_1_AgainstTheWords(t *testing.T) {
	random := rand.New(rand.NewSource(11))
	met := 0
	for range 20000 {
		start := someStart(random)
		days := 5 + random.Int63n(60)
		z, e := someZone(random, start+days*720), someEvent(random, start, days)
		if !event.May(e) || !zone.May(z) {
			t.Fatalf("%+v, %+v: may not be: %v", e, z, faults(e))
		}
		// As far as a window or a change is asked for.
		times := timesByWords(e, start+(days+30)*1440+528481+900)
		all := membersByWords(z, e, times)
		within := slices.DeleteFunc(slices.Clone(all), func(m api.Span) bool { return m.From > start+days*1440 })
		for _, window := range windowsAround(random, within, start, days) {
			hasMembers(t, z, e, window, all)
			met += len(metByWords(all, window))
		}
		hasTimes(t, e, times, e.Start-1, e.Start, e.Start+1, math.MinInt64, -1, math.MaxInt64)
		hasTimes(t, e, times, e.Ex...)
		hasTimes(t, e, times, e.Plus...)
		for _, c := range e.Changes {
			hasTimes(t, e, times, c.At-1440, c.At-1, c.At, c.At+1, c.Start)
		}
	}
	if met < 100000 {
		t.Errorf("%d members met", met)
	}
}

// TestP11_1_Times: each minute of some days, and all at the edges.
func TestP11_1_Times(t *testing.T) {
	e := base(true)
	e.Changes = append(e.Changes, api.Change{At: 4000, Start: 200, Long: 5}, api.Change{At: 4860, Start: 4860})
	one, world := base(false), base(false)
	world.World = true
	ended := api.Event{Start: 540, Long: 60, Again: true, Rule: read(t, "FREQ=DAILY;COUNT=2"), Plus: []int64{0, 3420, last}}
	for i, want := range [][]int64{{540, 600, 3420, 4860}, {540}, {540}, {0, 540, 1980, 3420, last}} {
		x := []api.Event{e, one, world, ended}[i]
		set := map[int64]int{}
		for _, at := range want {
			set[at] = 1
		}
		hasTimes(t, x, set, rising(-2000, 2000+6000)...)
		if i > 0 {
			hasTimes(t, x, set, last-1440, last-1, last)
		}
		hasTimes(t, x, set, math.MinInt64, math.MinInt64+1, last+1, last+541, api.Minutes+1440, math.MaxInt64-1, math.MaxInt64)
	}
}

// copied is an event in memory of its own, with room behind its lists, and empty lists instead of nil ones.
func copied(e api.Event) api.Event {
	e.Rule.ByMonth = append(make([]int, 0, 60), e.Rule.ByMonth...)
	e.Rule.ByMonthDay = append(make([]int, 0, 60), e.Rule.ByMonthDay...)
	e.Rule.ByDay = append(make([]api.DayN, 0, 60), e.Rule.ByDay...)
	e.Rule.BySetPos = append(make([]int, 0, 60), e.Rule.BySetPos...)
	e.Ex = append(make([]int64, 0, 60), e.Ex...)
	e.Plus = append(make([]int64, 0, 60), e.Plus...)
	e.Changes = append(make([]api.Change, 0, 60), e.Changes...)
	return e
}

// withRoom is an event whose lists have the room behind them, too.
func withRoom(e api.Event) api.Event {
	e.Rule.ByMonth = e.Rule.ByMonth[:cap(e.Rule.ByMonth)]
	e.Rule.ByMonthDay = e.Rule.ByMonthDay[:cap(e.Rule.ByMonthDay)]
	e.Rule.ByDay = e.Rule.ByDay[:cap(e.Rule.ByDay)]
	e.Rule.BySetPos = e.Rule.BySetPos[:cap(e.Rule.BySetPos)]
	e.Ex = e.Ex[:cap(e.Ex)]
	e.Plus = e.Plus[:cap(e.Plus)]
	e.Changes = e.Changes[:cap(e.Changes)]
	return e
}

// someEvents are such with all kinds of rows, each with a window and a zone.
func someEvents(random *rand.Rand) (l []api.Event, z api.Zone, window api.Span) {
	start := int64(46000*1440 + 540)
	for range 60 {
		l = append(l, someEvent(random, start, 60))
	}
	return l, someZone(random, start+30*1440), api.Span{From: start - 1440, To: start + 70*1440}
}

// TestP11_1_NothingChangedOrKept: R3 of the document.
func TestP11_1_NothingChangedOrKept(t *testing.T) {
	l, z, window := someEvents(rand.New(rand.NewSource(12)))
	turns := slices.Clone(z.Turns)
	for _, e := range l {
		given, as := copied(e), copied(e)
		row := event.Members(z, given, window)
		event.May(given)
		event.At(given, given.Start)
		if !reflect.DeepEqual(given, as) || !reflect.DeepEqual(withRoom(given), withRoom(as)) || !slices.Equal(z.Turns, turns) {
			t.Fatalf("%+v was changed to %+v", withRoom(as), withRoom(given))
		}
		want := slices.Clone(row)
		for i := range withRoom(given).Plus {
			withRoom(given).Plus[i], withRoom(given).Ex[i], withRoom(given).Changes[i] = -7, -7, api.Change{At: -7}
		}
		if !slices.Equal(row, want) {
			t.Fatalf("%v, once the event was written into, not %v", row, want)
		}
		for i := range row[:cap(row)] {
			row[:cap(row)][i] = api.Span{From: -7, To: -7}
		}
		if again := event.Members(z, e, window); !slices.Equal(again, want) {
			t.Fatalf("%v, once an answer was written into, not %v", again, want)
		}
	}
}

// TestP11_1_NilAsEmpty: R4 of the document.
func TestP11_1_NilAsEmpty(t *testing.T) {
	l, z, window := someEvents(rand.New(rand.NewSource(13)))
	for _, e := range append(l, base(false), base(true), api.Event{Start: 1, Long: 1, Again: true, Rule: daily}) {
		a, b := event.Members(z, e, window), event.Members(z, copied(e), window)
		if !slices.Equal(a, b) || !event.May(e) || !event.May(copied(e)) || event.At(e, e.Start) != event.At(copied(e), e.Start) {
			t.Errorf("%+v: %v, with empty lists %v", e, a, b)
		}
	}
	e := base(true)
	has(t, api.Zone{Turns: []api.Turn{}}, e, window, event.Members(api.Zone{}, e, window)...)
}

// TestP11_1_SameAnswers: R5 of the document, with calls beside each other.
func TestP11_1_SameAnswers(t *testing.T) {
	l, z, window := someEvents(rand.New(rand.NewSource(14)))
	for _, e := range l {
		want := event.Members(z, e, window)
		is := event.At(e, e.Start)
		var all sync.WaitGroup
		for range 8 {
			all.Go(func() {
				if !slices.Equal(event.Members(z, e, window), want) || event.At(e, e.Start) != is || !event.May(e) {
					t.Errorf("%+v: others beside each other", e)
				}
			})
		}
		all.Wait()
	}
}
