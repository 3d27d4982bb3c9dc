package zone_test

import (
	"math"
	"math/rand"
	"slices"
	"testing"
	"time"

	"vespers/api"
	"vespers/zone"
)

// The tests hold the calls against the chapter's words taken one by one, without halving: turns are gone through in order, and a local time's minutes are tried with all that may be added.

const last = api.Minutes

// extremes are minutes that no call may stumble over.
var extremes = []int64{math.MinInt64, math.MinInt64 + 1, math.MinInt64 + 900, math.MinInt32, -last, -1801, -901, 0, 1, last, last + 901, last + 1801, math.MaxInt32, math.MaxInt64 - 900, math.MaxInt64 - 1, math.MaxInt64}

// example is the chapter's zone.
var example = api.Zone{Base: 60, Turns: []api.Turn{{At: 1000000, Offset: 120}}}

// zones are such that may be, with turns at all edges.
func zones() []api.Zone {
	return []api.Zone{
		{},
		{Base: 900},
		{Base: -900},
		{Base: 60, Turns: []api.Turn{}},
		example,
		{Base: 60, Turns: []api.Turn{{At: 10000, Offset: 120}, {At: 20000, Offset: 60}}},
		{Base: -300, Turns: []api.Turn{{At: 10000, Offset: -240}, {At: 20000, Offset: -300}}},
		// Two clocks that jump as far as they may, as close as they may.
		{Base: -900, Turns: []api.Turn{{At: 5000, Offset: 900}, {At: 7880, Offset: -900}, {At: 10760, Offset: 900}}},
		{Base: 900, Turns: []api.Turn{{At: 5000, Offset: -900}, {At: 7880, Offset: 900}, {At: 10760, Offset: -900}}},
		// Two jumps the same way, and one that is none.
		{Base: -60, Turns: []api.Turn{{At: 4000, Offset: 0}, {At: 6880, Offset: 60}, {At: 9760, Offset: 60}, {At: 12640, Offset: 59}}},
		// Turns at, and close to, the beginning and the end.
		{Base: 60, Turns: []api.Turn{{At: 0, Offset: 120}}},
		{Base: 120, Turns: []api.Turn{{At: 0, Offset: 60}}},
		{Base: -900, Turns: []api.Turn{{At: 0, Offset: 900}, {At: last, Offset: -900}}},
		{Base: 900, Turns: []api.Turn{{At: 0, Offset: -900}, {At: last, Offset: 900}}},
		{Base: 60, Turns: []api.Turn{{At: 30, Offset: 0}, {At: last - 30, Offset: 60}}},
		{Base: 0, Turns: []api.Turn{{At: 30, Offset: 60}, {At: last - 30, Offset: 0}}},
		europe(),
		full(),
	}
}

// europe is a zone with two turns a year, on the last Sundays of March and October.
func europe() api.Zone {
	z := api.Zone{Base: 60}
	for year := 1900; year <= 2200; year++ {
		for _, x := range []struct {
			month  time.Month
			offset int
		}{{time.March, 120}, {time.October, 60}} {
			end := time.Date(year, x.month, 31, 1, 0, 0, 0, time.UTC)
			sunday := end.AddDate(0, 0, -int(end.Weekday()))
			z.Turns = append(z.Turns, api.Turn{At: minuteOf(sunday), Offset: x.offset})
		}
	}
	return z
}

func minuteOf(t time.Time) int64 {
	return (t.Unix() - time.Date(1900, time.January, 1, 0, 0, 0, 0, time.UTC).Unix()) / 60
}

// full is a zone of as many turns as there may be, as close as they may be.
func full() api.Zone {
	z := api.Zone{Base: -7}
	for i := range int64(api.MaxTurns) {
		z.Turns = append(z.Turns, api.Turn{At: 100 + i*api.TurnGap, Offset: int(i*5%13)*150 - 900})
	}
	return z
}

// wrongZones are zones that may not be.
func wrongZones() []api.Zone {
	var l []api.Zone
	for _, offset := range []int{901, -901, math.MaxInt, math.MinInt} {
		l = append(l, api.Zone{Base: offset}, api.Zone{Base: offset, Turns: []api.Turn{{At: 5000, Offset: 60}}},
			api.Zone{Turns: []api.Turn{{At: 5000, Offset: offset}}}, api.Zone{Turns: []api.Turn{{At: 5000}, {At: 10000}, {At: 15000, Offset: offset}}})
	}
	for _, at := range []int64{-1, last + 1, math.MinInt64, math.MaxInt64} {
		l = append(l, api.Zone{Turns: []api.Turn{{At: at, Offset: 60}}}, api.Zone{Turns: []api.Turn{{At: at}, {At: 5000}}},
			api.Zone{Turns: []api.Turn{{At: 5000}, {At: at}}})
	}
	for _, gap := range []int64{2879, 1, 0, -1, -2880} {
		l = append(l, api.Zone{Turns: []api.Turn{{At: 5000}, {At: 5000 + gap}}}, api.Zone{Turns: []api.Turn{{At: 5000}, {At: 50000}, {At: 50000 + gap}}})
	}
	// The distance of these wraps round to one that would be far enough.
	l = append(l, api.Zone{Turns: []api.Turn{{At: math.MaxInt64}, {At: math.MinInt64 + api.TurnGap}}})
	many := full()
	many.Turns = append(many.Turns, api.Turn{At: 100 + api.MaxTurns*api.TurnGap})
	return append(l, many, api.Zone{Turns: make([]api.Turn, 100000)})
}

// added goes through all turns in order.
func added(z api.Zone, utc int64) int {
	n := z.Base
	for _, t := range z.Turns {
		if t.At <= utc {
			n = t.Offset
		}
	}
	return n
}

// sources are the minutes of which a local time comes, rising, also those that are out of time.
func sources(z api.Zone, local int64) []int64 {
	offsets := map[int]int{z.Base: 1}
	for _, t := range z.Turns {
		offsets[t.Offset] = 1
	}
	var l []int64
	for offset := range offsets {
		if utc := local - int64(offset); added(z, utc) == offset {
			l = append(l, utc)
		}
	}
	slices.Sort(l)
	return l
}

// utcByWords is what Utc is to answer of a zone that may be.
func utcByWords(t *testing.T, z api.Zone, local int64) (int64, int, bool) {
	t.Helper()
	if local < -900 || local > last+900 {
		return 0, 0, false
	}
	var utc int64
	kind := api.Plain
	switch l := sources(z, local); len(l) {
	case 0:
		utc, kind = local-int64(addedAheadOfGap(t, z, local)), api.Gap
	case 1:
		utc = l[0]
	case 2:
		utc, kind = l[0], api.Fold
	default:
		t.Fatalf("local time %d comes of %v", local, l)
	}
	if utc < 0 || utc > last {
		return 0, 0, false
	}
	return utc, kind, true
}

// addedAheadOfGap is what was added ahead of the turn over which the clock jumps.
func addedAheadOfGap(t *testing.T, z api.Zone, local int64) int {
	t.Helper()
	for _, turn := range z.Turns {
		ahead := added(z, turn.At-1)
		if turn.At+int64(ahead) <= local && local < turn.At+int64(turn.Offset) {
			return ahead
		}
	}
	t.Fatalf("no clock jumps over the local time %d", local)
	return 0
}

// minutesOf are minutes around all that happens in a zone; those of zones with many turns are taken by steps.
func minutesOf(z api.Zone) []int64 {
	l := slices.Clone(extremes)
	around := func(at, step int64) {
		for d := int64(-1900); d <= 1900; d += step {
			l = append(l, at+d)
		}
	}
	around(0, 1)
	around(last, 1)
	for i, turn := range z.Turns {
		if len(z.Turns) < 10 {
			around(turn.At, 1)
		} else if i%20 == 0 || i > len(z.Turns)-3 {
			around(turn.At, 7)
			around(turn.At+int64(turn.Offset), 59)
			around(turn.At+int64(added(z, turn.At-1)), 59)
		}
	}
	return l
}

func checkUtc(t *testing.T, z api.Zone, local, utc int64, kind int, ok bool) {
	t.Helper()
	if u, k, o := zone.Utc(z, local); u != utc || k != kind || o != ok {
		t.Fatalf("Utc(base %d, %d turns; %d): %d, %d, %v, not %d, %d, %v", z.Base, len(z.Turns), local, u, k, o, utc, kind, ok)
	}
}

func checkLocal(t *testing.T, z api.Zone, utc, local int64, ok bool) {
	t.Helper()
	if l, o := zone.Local(z, utc); l != local || o != ok {
		t.Fatalf("Local(base %d, %d turns; %d): %d, %v, not %d, %v", z.Base, len(z.Turns), utc, l, o, local, ok)
	}
}

func checkNext(t *testing.T, z api.Zone, utc, at int64, ok bool) {
	t.Helper()
	if a, o := zone.Next(z, utc); a != at || o != ok {
		t.Fatalf("Next(base %d, %d turns; %d): %d, %v, not %d, %v", z.Base, len(z.Turns), utc, a, o, at, ok)
	}
}

func checkOffset(t *testing.T, z api.Zone, utc int64, offset int) {
	t.Helper()
	if n := zone.Offset(z, utc); n != offset {
		t.Fatalf("Offset(base %d, %d turns; %d): %d, not %d", z.Base, len(z.Turns), utc, n, offset)
	}
}

func TestP2_1_May(t *testing.T) {
	for i, z := range zones() {
		if !zone.May(z) {
			t.Errorf("May of zone %d: false", i)
		}
	}
	for i, z := range wrongZones() {
		if zone.May(z) {
			t.Errorf("May of wrong zone %d: true", i)
		}
	}
	if n := len(full().Turns); n != 700 {
		t.Errorf("%d turns", n)
	}
}

func TestP2_1_WrongZones(t *testing.T) {
	for _, z := range wrongZones() {
		for _, minute := range append([]int64{4999, 5000, 5001, 5060}, extremes...) {
			checkOffset(t, z, minute, 0)
			checkLocal(t, z, minute, 0, false)
			checkUtc(t, z, minute, 0, 0, false)
			checkNext(t, z, minute, 0, false)
		}
	}
}

func TestP2_1_OffsetLocalNext(t *testing.T) {
	for _, z := range zones() {
		for _, utc := range minutesOf(z) {
			offset := added(z, utc)
			checkOffset(t, z, utc, offset)
			if utc >= 0 && utc <= last {
				checkLocal(t, z, utc, utc+int64(offset), true)
			} else {
				checkLocal(t, z, utc, 0, false)
			}
			place := slices.IndexFunc(z.Turns, func(turn api.Turn) bool { return turn.At > utc })
			if place < 0 {
				checkNext(t, z, utc, 0, false)
			} else {
				checkNext(t, z, utc, z.Turns[place].At, true)
			}
		}
	}
}

func TestP2_1_Utc(t *testing.T) {
	for _, z := range zones() {
		for _, local := range minutesOf(z) {
			utc, kind, ok := utcByWords(t, z, local)
			checkUtc(t, z, local, utc, kind, ok)
		}
	}
}

func TestP2_1_RandomZones(t *testing.T) {
	r := rand.New(rand.NewSource(2))
	for range 300 {
		z := api.Zone{Base: r.Intn(1801) - 900}
		at := r.Int63n(5000)
		for range r.Intn(8) {
			z.Turns = append(z.Turns, api.Turn{At: at, Offset: r.Intn(1801) - 900})
			at += api.TurnGap + r.Int63n(3)*r.Int63n(5000)
		}
		for range 500 {
			minute := r.Int63n(at+4000) - 2000
			checkOffset(t, z, minute, added(z, minute))
			utc, kind, ok := utcByWords(t, z, minute)
			checkUtc(t, z, minute, utc, kind, ok)
		}
	}
}

func TestP2_1_ExampleOfTheChapter(t *testing.T) {
	checkUtc(t, example, 1000059, 999999, api.Plain, true)
	checkUtc(t, example, 1000060, 1000000, api.Gap, true)
	checkUtc(t, example, 1000119, 1000059, api.Gap, true)
	checkUtc(t, example, 1000120, 1000000, api.Plain, true)
	checkOffset(t, example, 999999, 60)
	checkOffset(t, example, 1000000, 120)
	checkLocal(t, example, 1000000, 1000120, true)
	checkNext(t, example, 999999, 1000000, true)
	checkNext(t, example, 1000000, 0, false)
}

func TestP2_1_Fold(t *testing.T) {
	z := api.Zone{Base: 120, Turns: []api.Turn{{At: 1000000, Offset: 60}}}
	checkUtc(t, z, 1000059, 999939, api.Plain, true)
	checkUtc(t, z, 1000060, 999940, api.Fold, true)
	checkUtc(t, z, 1000119, 999999, api.Fold, true)
	checkUtc(t, z, 1000120, 1000060, api.Plain, true)
}

func TestP2_1_Ends(t *testing.T) {
	checkUtc(t, api.Zone{}, 0, 0, api.Plain, true)
	checkUtc(t, api.Zone{}, -1, 0, 0, false)
	checkUtc(t, api.Zone{}, last, last, api.Plain, true)
	checkUtc(t, api.Zone{}, last+1, 0, 0, false)
	east, west := api.Zone{Base: 900}, api.Zone{Base: -900}
	checkUtc(t, east, 899, 0, 0, false)
	checkUtc(t, east, last+900, last, api.Plain, true)
	checkUtc(t, east, last+901, 0, 0, false)
	checkUtc(t, west, -901, 0, 0, false)
	checkUtc(t, west, -900, 0, api.Plain, true)
	checkUtc(t, west, last-899, 0, 0, false)
	// Only the second of these folds' minutes is in time; the first one is what would be told.
	early := api.Zone{Base: 60, Turns: []api.Turn{{At: 30, Offset: 0}}}
	checkUtc(t, early, 59, 0, 0, false)
	checkUtc(t, early, 60, 0, api.Fold, true)
	checkUtc(t, early, 90, 90, api.Plain, true)
	// A gap at the end: only what comes at the turn itself is still in time.
	late := api.Zone{Turns: []api.Turn{{At: last, Offset: 900}}}
	checkUtc(t, late, last, last, api.Gap, true)
	checkUtc(t, late, last+1, 0, 0, false)
	checkUtc(t, late, last+900, last, api.Plain, true)
}

func TestP2_1_WhatIsHandedInStays(t *testing.T) {
	z, same := europe(), europe()
	for _, minute := range extremes {
		zone.May(z)
		zone.Offset(z, minute)
		zone.Local(z, minute)
		zone.Utc(z, minute)
		zone.Next(z, minute)
	}
	if z.Base != same.Base || !slices.Equal(z.Turns, same.Turns) {
		t.Error("the zone is another one")
	}
}

func TestP2_2_ThereAndBack(t *testing.T) {
	for _, z := range zones() {
		for _, local := range minutesOf(z) {
			utc, kind, ok := zone.Utc(z, local)
			if !ok || kind == api.Gap {
				continue
			}
			checkLocal(t, z, utc, local, true)
			if l := sources(z, local); l[0] != utc {
				t.Fatalf("local time %d comes of %d, ahead of %d", local, l[0], utc)
			}
		}
	}
}

func TestP2_2_EachMinuteComesBack(t *testing.T) {
	for _, z := range zones() {
		for _, utc := range minutesOf(z) {
			local, ok := zone.Local(z, utc)
			if !ok {
				continue
			}
			first := sources(z, local)[0]
			if first < 0 {
				checkUtc(t, z, local, 0, 0, false)
				continue
			}
			if back, kind, ok := zone.Utc(z, local); back != first || kind == api.Gap || !ok {
				t.Fatalf("Utc(%d), the local time of %d: %d, %d, %v, not %d", local, utc, back, kind, ok, first)
			}
		}
	}
}
