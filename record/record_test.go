package record_test

import (
	"bytes"
	"fmt"
	"math"
	"math/rand"
	"reflect"
	"slices"
	"strings"
	"sync"
	"testing"

	"vespers/api"
	"vespers/record"
)

// The tests hold the calls against the chapter's words (words_test.go), and against bytes that are written out.

// face is a kind of thing with its calls.
type face[T any] struct {
	what[T]
	put  func(T) ([]byte, bool)
	get  func([]byte) (T, bool)
	same func(a, b T) bool
}

var (
	ofAsks    = face[api.Ask]{asks, record.PutAsk, record.GetAsk, record.SameAsk}
	ofReplies = face[api.Reply]{replies, record.PutReply, record.GetReply, record.SameReply}
	ofStates  = face[api.State]{states, record.PutState, record.GetState, record.SameState}
)

const kinds = 11

// isWritten asks for what the chapter says of a thing's bytes: those from which it is read as it is, or none. It tells whether there are such.
func (f face[T]) isWritten(t *testing.T, x T) bool {
	t.Helper()
	want, _ := f.write(x, -1, 0)
	read, is := f.read(want)
	if !is || !same(read, x) {
		want, is = nil, false
	}
	b, ok := f.put(x)
	if ok != is || !bytes.Equal(b, want) {
		t.Fatalf("Put%s(%+v): %v, %v, not %v, %v", f.name, x, b, ok, want, is)
	}
	return is
}

// isRead asks for what the chapter says of bytes: what is read of them, and that this is written as it stood. It tells whether anything is.
func (f face[T]) isRead(t *testing.T, b []byte) bool {
	t.Helper()
	want, is := f.read(b)
	x, ok := f.get(b)
	if ok != is || !same(x, want) {
		t.Fatalf("Get%s(%v): %+v, %v, not %+v, %v", f.name, b, x, ok, want, is)
	}
	if again, ok := f.put(x); is && (!ok || !bytes.Equal(again, b)) {
		t.Fatalf("Get%s(%v): %+v, that is written as %v, %v", f.name, b, x, again, ok)
	}
	return is
}

// some are things that are read, of each kind some, with rows of up to so many things.
func (f face[T]) some(seed int64, count, long int) []T {
	random := rand.New(rand.NewSource(seed))
	lengths := func(most int) int { return min(random.Intn(long+1), most) }
	var l []T
	for range count {
		for kind := range kinds {
			l = append(l, fill(filling{random, lengths}, f.what, kind+1))
		}
	}
	return l
}

// whole is a thing whose fields are all there, also those of which not all are read; each row has two things.
func whole[T any](seed int64) T {
	random := rand.New(rand.NewSource(seed))
	var x T
	eachField(reflect.ValueOf(&x).Elem(), "", func(_ string, v reflect.Value) {
		switch v.Kind() {
		case reflect.Slice:
			v.Set(reflect.MakeSlice(v.Type(), 2, 2))
		case reflect.String:
			v.SetString(fmt.Sprint(random.Intn(100)))
		case reflect.Bool:
			v.SetBool(true)
		default:
			putNumber(v, uint64(1+random.Intn(3)))
		}
	})
	return x
}

// eachField visits each field of a thing, also those in its rows, and the rows themselves, ahead of what is in them.
func eachField(v reflect.Value, path string, visit func(path string, v reflect.Value)) {
	switch v.Kind() {
	case reflect.Struct:
		for i := range v.NumField() {
			eachField(v.Field(i), path+"."+v.Type().Field(i).Name, visit)
		}
	case reflect.Slice:
		visit(path, v)
		for i := range v.Len() {
			eachField(v.Index(i), fmt.Sprintf("%s[%d]", path, i), visit)
		}
	default:
		visit(path, v)
	}
}

// bounds are all numbers that the chapter names, of any kind.
func bounds() []int64 {
	return []int64{-900, -400, -5, 0, 1, 4, 5, 6, 8, 10, 11, 13, 16, 32, 40, 50, 60, 64, 100, 127, 240, 400, 700, 900, 999, 1000, 1440,
		4096, 5000, 10080, 100000, 109937, 158310720, 1<<31 - 1, 1<<32 - 1, math.MinInt64 + 1, math.MaxInt64 - 1}
}

// atBounds are these, and those beside them.
func atBounds() []int64 {
	var l []int64
	for _, x := range bounds() {
		l = append(l, x-1, x, x+1)
	}
	slices.Sort(l)
	return slices.Compact(l)
}

// asBytes are these as numbers that are written, also as signed ones, and the greatest ones.
func asBytes() []uint64 {
	l := []uint64{1 << 63, 1<<63 + 1, math.MaxUint64 - 1, math.MaxUint64}
	for _, x := range atBounds() {
		l = append(l, uint64(x)<<1^uint64(x>>63))
		if x >= 0 {
			l = append(l, uint64(x))
		}
	}
	slices.Sort(l)
	return slices.Compact(l)
}

// join are bytes one behind the other: numbers, texts and rows of bytes.
func join(things ...any) []byte {
	var b []byte
	for _, x := range things {
		switch x := x.(type) {
		case int:
			b = append(b, byte(x))
		case string:
			b = append(b, x...)
		case []byte:
			b = append(b, x...)
		}
	}
	return b
}

// is asks for a thing's bytes, and for the thing of bytes.
func (f face[T]) is(t *testing.T, x T, want []byte) {
	t.Helper()
	if b, ok := f.put(x); !ok || !bytes.Equal(b, want) {
		t.Errorf("Put%s(%+v): %v, %v, not %v", f.name, x, b, ok, want)
	}
	if y, ok := f.get(want); !ok || !same(y, x) {
		t.Errorf("Get%s(%v): %+v, %v, not %+v", f.name, want, y, ok, x)
	}
	f.isWritten(t, x)
	f.isRead(t, want)
}

// isNone asks for a thing that has no bytes.
func (f face[T]) isNone(t *testing.T, x T) {
	t.Helper()
	if b, ok := f.put(x); ok || len(b) != 0 {
		t.Errorf("Put%s(%+v): %v, %v", f.name, x, b, ok)
	}
	f.isWritten(t, x)
}

// areNone asks for bytes that are no thing's.
func (f face[T]) areNone(t *testing.T, b []byte) {
	t.Helper()
	if x, ok := f.get(b); ok || !same(x, *new(T)) {
		t.Errorf("Get%s(%v): %+v, %v", f.name, b, x, ok)
	}
	f.isRead(t, b)
}

var (
	someQuery = api.Query{Window: api.Span{From: -1, To: 300}, Long: 60, Grid: 1440, Must: []uint32{1, 300}, May: []api.Wanted{{User: 2, Weight: 1000}},
		Seats: 3, Apart: []api.Pair{{A: 1, B: 2}}, Prefer: []api.Shift{{Days: 127, From: 540, To: 1440}}}
	queryBytes = join(1, 216, 4, 60, 160, 11, 2, 1, 172, 2, 1, 2, 232, 7, 3, 1, 1, 2, 1, 127, 156, 4, 160, 11)

	someSettings = api.Settings{Zone: api.Zone{Base: -60, Turns: []api.Turn{{At: 5, Offset: 900}, {At: -5, Offset: -900}}},
		Hours: api.Hours{Shifts: []api.Shift{{Days: 31, From: 0, To: 5}}, Off: []int{7, 109937}}, Before: 240, After: 1}
	settingsBytes = join(119, 2, 10, 136, 14, 9, 135, 14, 1, 31, 0, 5, 2, 7, 241, 218, 6, 240, 1, 1)

	someAgain = api.Event{Start: 600, Long: 30, Again: true, Rule: api.Rule{Freq: 4, Interval: 2, Count: 5000, Until: -1, ByMonth: []int{1, 12}, ByMonthDay: []int{-1, 31},
		ByDay: []api.DayN{{N: -5, Day: 6}}, BySetPos: []int{-366, 366}, Start: 6}, Ex: []int64{600}, Plus: []int64{-1, 700}, Changes: []api.Change{{At: 1, Start: 2, Long: 3}}}
	againBytes = join(176, 9, 30, 1, 4, 2, 136, 39, 1, 2, 2, 24, 2, 1, 62, 1, 9, 6, 2, 219, 5, 220, 5, 6, 1, 176, 9, 2, 1, 248, 10, 1, 2, 4, 3)

	onceEvent = api.Event{Start: -1, Long: 10080, World: true}
	onceBytes = join(1, 224, 78, 0, 1)

	somePoll  = api.Poll{Id: 1, Owner: 300, Query: someQuery, Slots: []int64{5, -5}, Votes: []api.Vote{{User: 3, Slot: 40}}, Until: 7, State: 4, Winner: 40}
	pollBytes = join(1, 172, 2, queryBytes, 2, 10, 9, 1, 3, 40, 14, 4, 40)
)

// TestP16_1_AsksWrittenOut: requests of all kinds, byte by byte.
func TestP16_1_AsksWrittenOut(t *testing.T) {
	ofAsks.is(t, api.Ask{Kind: api.AskLeave, Caller: 5, User: 5, Number: 7}, []byte{2, 5, 7})
	head := join(172, 2, 255, 255, 255, 255, 255, 255, 255, 255, 255, 1)
	for _, c := range []struct {
		a api.Ask
		b []byte
	}{
		{api.Ask{Kind: 1, Settings: someSettings}, settingsBytes},
		{api.Ask{Kind: 2}, nil},
		{api.Ask{Kind: 3, Id: 128, Event: someAgain}, join(128, 1, againBytes)},
		{api.Ask{Kind: 3, Id: 0, Event: onceEvent}, join(0, onceBytes)},
		{api.Ask{Kind: 4, Id: 128}, join(128, 1)},
		{api.Ask{Kind: 5, Query: someQuery, Cursor: "aé", Count: 100}, join(queryBytes, 3, "aé", 100)},
		{api.Ask{Kind: 6, Poll: 9, Query: someQuery, Count: 40, Until: -2}, join(9, queryBytes, 40, 3)},
		{api.Ask{Kind: 7, Poll: 9, Slot: 40, Yes: true}, join(9, 40, 1)},
		{api.Ask{Kind: 8, Poll: 9}, join(9)},
		{api.Ask{Kind: 9, Poll: 9, Id: 8}, join(9, 8)},
		{api.Ask{Kind: 10, Poll: math.MaxUint32}, join(255, 255, 255, 255, 15)},
		{api.Ask{Kind: 11, Until: 158310720}, join(128, 133, 253, 150, 1)},
	} {
		c.a.Caller, c.a.User, c.a.Number = 300, 300, math.MaxUint64
		ofAsks.is(t, c.a, join(c.a.Kind, head, c.b))
		ofAsks.areNone(t, join(c.a.Kind, head, c.b, 0))
		c.a.User = 0
		ofAsks.isNone(t, c.a)
	}
}

// TestP16_1_RepliesWrittenOut: replies with all that there is, and with less, byte by byte.
func TestP16_1_RepliesWrittenOut(t *testing.T) {
	ofReplies.is(t, api.Reply{}, []byte{0, 0, 0, 0, 0})
	r := api.Reply{Err: 13, Version: 1 << 63, Slots: []api.Slot{{Start: -3, Weight: 100000, Rank: 100}, {Start: 3}}, Cursor: "-1", Poll: somePoll}
	ofReplies.is(t, r, join(13, 128, 128, 128, 128, 128, 128, 128, 128, 128, 1, 2, 5, 160, 141, 6, 100, 6, 0, 0, 2, "-1", 1, pollBytes))
	ofReplies.is(t, api.Reply{Poll: api.Poll{Id: 1}}, join(0, 0, 0, 0, 1, 1, make([]byte, 15)))
}

// TestP16_1_StatesWrittenOut: states with all that there is, and with less, byte by byte.
func TestP16_1_StatesWrittenOut(t *testing.T) {
	ofStates.is(t, api.State{}, []byte{0, 0, 0, 0})
	x := api.State{
		Clock: 200,
		Users: []api.User{{Id: 2, Settings: someSettings, Version: 300, Events: []api.Entry{{Id: 5, Event: onceEvent}, {Id: 6, Event: someAgain}}}, {Id: 3}},
		Polls: []api.Poll{somePoll, {Id: 2}, {}},
		Done:  []api.Done{{Caller: 2, Number: 128, Version: 1}, {}},
	}
	ofStates.is(t, x, join(144, 3, 2, 2, settingsBytes, 172, 2, 2, 5, onceBytes, 6, againBytes, 3, make([]byte, 8),
		3, pollBytes, 2, make([]byte, 15), make([]byte, 16), 2, 2, 128, 1, 1, 0, 0, 0))
}

// TestP16_1_PollsThatAreNone: whether there is a poll in a reply hangs on its Id alone; in a state there may be one of Id 0.
func TestP16_1_PollsThatAreNone(t *testing.T) {
	ofReplies.areNone(t, join(0, 0, 0, 0, 1, make([]byte, 16)))
	ofReplies.areNone(t, join(0, 0, 0, 0, 1))
	ofReplies.areNone(t, join(0, 0, 0, 0, 2, 1, make([]byte, 15)))
	for i := range reflect.TypeFor[api.Poll]().NumField() {
		p := whole[api.Poll](1)
		without := p
		reflect.ValueOf(&without).Elem().Field(i).SetZero()
		if without.Id == 0 {
			ofReplies.isNone(t, api.Reply{Poll: without})
		} else if !ofReplies.isWritten(t, api.Reply{Poll: without}) {
			t.Errorf("%+v isn't written", without)
		}
		var alone api.Poll
		reflect.ValueOf(&alone).Elem().Field(i).Set(reflect.ValueOf(p).Field(i))
		if alone.Id == 0 {
			ofReplies.isNone(t, api.Reply{Poll: alone})
		}
		if !ofStates.isWritten(t, api.State{Polls: []api.Poll{alone, without}}) {
			t.Errorf("%+v or %+v isn't written in a state", alone, without)
		}
	}
}

// TestP16_1_Events: those that come again have no World, others nothing but it.
func TestP16_1_Events(t *testing.T) {
	with := func(e api.Event) api.Ask { return api.Ask{Kind: api.AskPut, Event: e} }
	ofAsks.is(t, with(api.Event{Again: true}), join(3, 0, 0, 0, 0, 0, 1, make([]byte, 12)))
	ofAsks.is(t, with(api.Event{World: true}), join(3, 0, 0, 0, 0, 0, 0, 1))
	ofAsks.isNone(t, with(api.Event{World: true, Again: true}))
	full := whole[api.Event](2)
	eachField(reflect.ValueOf(&full).Elem(), "", func(path string, _ reflect.Value) {
		var again, once api.Event
		again.Again = true
		for _, e := range []*api.Event{&again, &once} {
			eachField(reflect.ValueOf(e).Elem(), "", func(other string, v reflect.Value) {
				if other == path && v.IsZero() {
					change(v)
				}
			})
			ofAsks.isWritten(t, with(*e))
			ofStates.isWritten(t, api.State{Users: []api.User{{Events: []api.Entry{{Event: *e}}}}})
		}
		named := map[string]bool{".Start": true, ".Long": true, ".Again": true, ".World": true}[path]
		if _, ok := record.PutAsk(with(once)); ok != named && !strings.Contains(path, "[") {
			t.Errorf("%s: %v", path, ok)
		}
	})
}

// change makes a field another one.
func change(v reflect.Value) {
	switch v.Kind() {
	case reflect.Slice:
		v.Set(reflect.Append(v, reflect.Zero(v.Type().Elem())))
	case reflect.String:
		v.SetString(v.String() + "x")
	case reflect.Bool:
		v.SetBool(!v.Bool())
	default:
		putNumber(v, numberOf(v)+1)
	}
}

// TestP16_1_AgainstTheWords: any things that are read, from small ones to such with long rows.
func TestP16_1_AgainstTheWords(t *testing.T) {
	for i, long := range []int{0, 1, 2, 3, 30, 200} {
		each, seed := 400/(long+1)+2, int64(10*i)
		allWritten(t, ofAsks, ofAsks.some(seed, each, long))
		allWritten(t, ofReplies, ofReplies.some(seed+1, each, long))
		allWritten(t, ofStates, ofStates.some(seed+2, each/10+1, min(long, 9)))
	}
}

func allWritten[T any](t *testing.T, f face[T], l []T) {
	t.Helper()
	for _, x := range l {
		if !f.isWritten(t, x) {
			t.Fatalf("%+v isn't written", x)
		}
		b, _ := f.put(x)
		if y, ok := f.get(b); !ok || !f.same(x, y) || !same(x, y) {
			t.Fatalf("Get%s(%v): %+v, %v, not %+v", f.name, b, y, ok, x)
		}
	}
}

// TestP16_1_EachNumber: each number of things' bytes at all bounds, what rows' and texts' lengths and flags are, too.
func TestP16_1_EachNumber(t *testing.T) {
	eachNumber(t, ofAsks, append(ofAsks.some(100, 2, 1), api.Ask{Kind: 3, Event: someAgain}, api.Ask{Kind: 5, Query: someQuery, Cursor: "abc"}))
	eachNumber(t, ofReplies, append(ofReplies.some(101, 1, 1), api.Reply{Slots: make([]api.Slot, 2), Cursor: "abc", Poll: somePoll}))
	eachNumber(t, ofStates, append(ofStates.some(102, 1, 1), api.State{Polls: []api.Poll{somePoll},
		Users: []api.User{{Settings: someSettings, Events: []api.Entry{{Event: someAgain}, {Event: onceEvent}}}}, Done: make([]api.Done, 2)}))
}

func eachNumber[T any](t *testing.T, f face[T], l []T) {
	t.Helper()
	read, not := 0, 0
	for _, x := range l {
		_, count := f.write(x, -1, 0)
		for place := range count {
			for _, other := range asBytes() {
				b, _ := f.write(x, place, other)
				if f.isRead(t, b) {
					read++
				} else {
					not++
				}
			}
		}
	}
	if read < 1000 || not < 1000 {
		t.Errorf("%s: %d are read, and %d not", f.name, read, not)
	}
}

// TestP16_1_EachField: each field at all bounds, also where it isn't named of a kind.
func TestP16_1_EachField(t *testing.T) {
	eachAtBounds(t, ofAsks, append(ofAsks.some(110, 2, 1), api.Ask{Kind: 3, Event: someAgain}, api.Ask{Kind: 5, Query: someQuery}))
	eachAtBounds(t, ofReplies, append(ofReplies.some(111, 1, 1), api.Reply{Poll: somePoll, Slots: make([]api.Slot, 2)}))
	eachAtBounds(t, ofStates, append(ofStates.some(112, 1, 1), api.State{Polls: []api.Poll{somePoll},
		Users: []api.User{{Settings: someSettings, Events: []api.Entry{{Event: someAgain}, {Event: onceEvent}}}}, Done: make([]api.Done, 2)}))
}

func eachAtBounds[T any](t *testing.T, f face[T], l []T) {
	t.Helper()
	written, not := 0, 0
	for _, x := range l {
		ask := func() {
			if f.isWritten(t, x) {
				written++
			} else {
				not++
			}
		}
		eachField(reflect.ValueOf(&x).Elem(), "", func(_ string, v reflect.Value) {
			was := reflect.New(v.Type()).Elem()
			was.Set(v)
			if k := v.Kind(); k == reflect.Slice || k == reflect.String || k == reflect.Bool {
				change(v)
				ask()
			} else {
				for _, n := range atBounds() {
					putNumber(v, uint64(n))
					ask()
				}
			}
			v.Set(was)
		})
	}
	if written < 1000 || not < 1000 {
		t.Errorf("%s: %d are written, and %d not", f.name, written, not)
	}
}

// TestP16_1_NotNamed: what isn't named of a kind is zero.
func TestP16_1_NotNamed(t *testing.T) {
	named := [kinds + 1]string{"", " Settings", "", " Id Event", " Id", " Query Cursor Count", " Poll Query Count Until", " Poll Slot Yes", " Poll", " Poll Id", " Poll", " Until"}
	full := whole[api.Ask](3)
	full.Event.World, full.User = false, full.Caller
	for kind := 1; kind <= kinds; kind++ {
		for i := range reflect.TypeFor[api.Ask]().NumField() {
			name := reflect.TypeFor[api.Ask]().Field(i).Name
			a := api.Ask{Kind: kind, Caller: full.Caller, Number: full.Number, User: full.User}
			if name == "Kind" || name == "Caller" || name == "Number" || name == "User" {
				continue
			}
			reflect.ValueOf(&a).Elem().Field(i).Set(reflect.ValueOf(full).Field(i))
			if is := strings.Contains(named[kind]+" ", " "+name+" "); ofAsks.isWritten(t, a) != is {
				t.Errorf("%+v: written, or not: %v", a, !is)
			}
		}
	}
	for _, kind := range []int{math.MinInt, -1, 0, 12, 13, 128, 256 + 2, math.MaxInt} {
		ofAsks.isNone(t, api.Ask{Kind: kind})
	}
	for _, kind := range []int{0, 12, 13, 127} {
		ofAsks.areNone(t, join(kind, 5, 7))
	}
	for _, a := range []api.Ask{{Kind: 2, User: 1}, {Kind: 2, Caller: 1}, {Kind: 11, Caller: 2, User: 3}} {
		ofAsks.isNone(t, a)
	}
}

// eachRow visits each row of a thing that has bytes, with its name and its part of the tables.
func eachRow(v reflect.Value, path string, parts []part, visit func(path string, v reflect.Value, p part)) {
	for _, p := range parts {
		x, inner := field(v, p.name), path+"."+p.name
		switch p.kind {
		case 'R':
			visit(inner, x, p)
			if x.Len() > 0 {
				eachRow(x.Index(0), inner, p.parts, visit)
			}
		case 'I':
			eachRow(x, inner, p.parts, visit)
		case 'P':
			if !x.FieldByName("Id").IsZero() {
				eachRow(x, inner, p.parts, visit)
			}
		case 'A':
			if x.Bool() {
				eachRow(v, path, p.parts, visit)
			}
		}
	}
}

// TestP16_1_RowsAtTheirMost: rows with as many things as they may have, and with one more.
func TestP16_1_RowsAtTheirMost(t *testing.T) {
	rowsAtMost(t, ofAsks, 120, 3+7+4+4)
	rowsAtMost(t, ofReplies, 121, 1+6)
	rowsAtMost(t, ofStates, 122, 1+3+1+7+1+6+1)
}

func rowsAtMost[T any](t *testing.T, f face[T], seed int64, want int) {
	t.Helper()
	random := rand.New(rand.NewSource(seed))
	one := filling{random, func(int) int { return 1 }}
	none := filling{random, func(int) int { return 0 }}
	seen := map[string]int{}
	for i := range 4 * kinds {
		kind := i%kinds + 1
		x := fill(one, f.what, kind)
		eachRow(reflect.ValueOf(&x).Elem(), fmt.Sprint(kind), f.parts(x), func(path string, v reflect.Value, p part) {
			was := v.Interface()
			for more := range 3 {
				none.row(v, p, p.most-1+more)
				if f.isWritten(t, x) != (more < 2) {
					t.Errorf("%s: %d things are written, or not", path, p.most-1+more)
				}
				b, _ := f.write(x, -1, 0)
				f.isRead(t, b)
			}
			v.Set(reflect.ValueOf(was))
			seen[strings.TrimLeft(path, "0123456789")+map[bool]string{true: fmt.Sprint(kind)}[f.name == "Ask"]]++
		})
	}
	if len(seen) != want {
		t.Errorf("%s: %d rows were seen: %v", f.name, len(seen), seen)
	}
}

// TestP16_1_Cursors: texts of any bytes, as long as they may be, and longer.
func TestP16_1_Cursors(t *testing.T) {
	for _, text := range []string{"", "\x00", "\xff\xfe", "é", strings.Repeat("x", 63), strings.Repeat("x", 64), strings.Repeat("é", 32), strings.Repeat("x", 65),
		strings.Repeat("é", 33), strings.Repeat("x", 127), strings.Repeat("x", 128), strings.Repeat("x", 70000)} {
		is := len(text) <= 64
		if ofAsks.isWritten(t, api.Ask{Kind: api.AskFind, Cursor: text}) != is || ofReplies.isWritten(t, api.Reply{Cursor: text}) != is {
			t.Errorf("%d bytes are written, or not: %v", len(text), !is)
		}
		for _, other := range []uint64{0, 1, 63, 64, 65, math.MaxUint64} {
			b, _ := ofReplies.write(api.Reply{Cursor: text}, 3, other)
			ofReplies.isRead(t, b)
		}
	}
}

// longState is a state of so many bytes.
func longState(t *testing.T, long int) api.State {
	t.Helper()
	u := api.User{Events: []api.Entry{{Event: api.Event{Again: true, Ex: make([]int64, 50), Plus: make([]int64, 50), Changes: make([]api.Change, 50)}}}}
	for range 700 {
		u.Settings.Zone.Turns = append(u.Settings.Zone.Turns, api.Turn{At: math.MinInt64, Offset: 900})
	}
	for i := range 50 {
		u.Events[0].Event.Ex[i], u.Events[0].Event.Plus[i] = math.MinInt64, math.MaxInt64
		u.Events[0].Event.Changes[i] = api.Change{At: math.MinInt64, Start: math.MaxInt64, Long: 10080}
	}
	x := api.State{Done: make([]api.Done, 4096)}
	for range 98 {
		x.Users = append(x.Users, u)
	}
	b, _ := ofStates.write(x, -1, 0)
	missing := long - len(b)
	for i := range x.Done {
		more := min(max(missing, 0), 9)
		x.Done[i].Number = 1 << (7 * more) // It has so many bytes more than 0 has.
		missing -= more
	}
	if missing != 0 {
		t.Fatalf("%d bytes are missing", missing)
	}
	return x
}

// TestP16_1_LongestState: a state has at most 1048576 bytes.
func TestP16_1_LongestState(t *testing.T) {
	for more := range 3 {
		long := 1<<20 - 1 + more
		x := longState(t, long)
		b, _ := ofStates.write(x, -1, 0)
		if len(b) != long {
			t.Fatalf("%d bytes, not %d", len(b), long)
		}
		got, ok := record.PutState(x)
		if ok != (more < 2) || ok && !bytes.Equal(got, b) || !ok && len(got) != 0 {
			t.Errorf("%d bytes are written: %v, as %d", long, ok, len(got))
		}
		if y, ok := record.GetState(b); ok != (more < 2) || ok && !same(y, x) || !ok && !same(y, api.State{}) {
			t.Errorf("%d bytes are read: %v", long, ok)
		}
	}
}

// TestP16_1_TooMuch: R1 of the document, with more than is read of all that may be more.
func TestP16_1_TooMuch(t *testing.T) {
	many := make([]int, 1<<20)
	ofAsks.isNone(t, api.Ask{Kind: api.AskUser, Settings: api.Settings{Hours: api.Hours{Off: many}}})
	ofAsks.isNone(t, api.Ask{Kind: api.AskPut, Event: api.Event{Again: true, Rule: api.Rule{ByMonth: many, ByMonthDay: many, BySetPos: many}}})
	user := api.User{Events: make([]api.Entry, 1<<16)}
	for i := range user.Events {
		user.Events[i].Event = api.Event{Again: true, Plus: make([]int64, 1<<10)}
	}
	x := api.State{Polls: make([]api.Poll, 1<<10)}
	for range 1 << 16 {
		x.Users = append(x.Users, user)
	}
	if b, ok := record.PutState(x); ok || len(b) != 0 {
		t.Errorf("%d bytes, %v", len(b), ok)
	}
	long := make([]byte, 1<<21)
	for i := range long {
		long[i] = 1
	}
	for most := 1 << 16; most <= 1<<21; most <<= 1 {
		ofAsks.areNone(t, long[:most])
		ofReplies.areNone(t, long[:most])
		ofStates.areNone(t, long[:most])
	}
}

// TestP16_1_Same: each field of all kinds of things, once it is another one, also of such as aren't read.
func TestP16_1_Same(t *testing.T) {
	eachOther(t, ofAsks, append(ofAsks.some(130, 1, 2), whole[api.Ask](4), api.Ask{}, api.Ask{Kind: -1, Count: -1}))
	eachOther(t, ofReplies, append(ofReplies.some(131, 1, 2), whole[api.Reply](4), api.Reply{}, api.Reply{Err: -1}))
	eachOther(t, ofStates, append(ofStates.some(132, 1, 2)[:4], whole[api.State](4), api.State{}, api.State{Clock: -1}))
}

func eachOther[T any](t *testing.T, f face[T], l []T) {
	t.Helper()
	for _, x := range l {
		if !f.same(x, x) || !f.same(x, copied(x, 0)) || !f.same(copied(x, 1), x) {
			t.Fatalf("%+v isn't the same", x)
		}
		other := copied(x, 0)
		var was reflect.Value
		is := func(path string, want bool) {
			t.Helper()
			if f.same(x, other) != want || f.same(other, x) != want {
				t.Fatalf("%+v and %+v, with another %s: the same: %v", x, other, path, !want)
			}
		}
		eachField(reflect.ValueOf(&other).Elem(), "", func(path string, v reflect.Value) {
			was = reflect.New(v.Type()).Elem()
			was.Set(v)
			change(v)
			is(path, false)
			if v.Kind() == reflect.Slice && was.Len() > 0 {
				v.Set(was.Slice(0, was.Len()-1))
				is(path, false)
				v.SetZero()
				is(path, false)
			}
			v.Set(was)
			is(path, true)
		})
	}
	for _, x := range l {
		for _, y := range l {
			if f.same(x, y) != same(x, y) {
				t.Fatalf("%+v and %+v: the same: %v", x, y, f.same(x, y))
			}
		}
	}
}

// TestP16_1_SameInOrder: rows with the same things in another order aren't the same.
func TestP16_1_SameInOrder(t *testing.T) {
	a := api.Ask{Kind: 3, Event: api.Event{Plus: []int64{1, 2}}}
	b := api.Ask{Kind: 3, Event: api.Event{Plus: []int64{2, 1}}}
	if record.SameAsk(a, b) || !record.SameAsk(a, a) {
		t.Error("asks")
	}
	users := []api.User{{Id: 1}, {Id: 2}}
	if record.SameState(api.State{Users: users}, api.State{Users: []api.User{{Id: 2}, {Id: 1}}}) || !record.SameState(api.State{Users: users}, api.State{Users: users}) {
		t.Error("states")
	}
	slots := []api.Slot{{Start: 1}, {Start: 2}}
	if record.SameReply(api.Reply{Slots: slots}, api.Reply{Slots: []api.Slot{{Start: 2}, {Start: 1}}}) {
		t.Error("replies")
	}
}

// inRoom are all fields of a thing, with those in the room behind its rows.
func inRoom(v reflect.Value) []any {
	switch v.Kind() {
	case reflect.Struct:
		var l []any
		for i := range v.NumField() {
			l = append(l, inRoom(v.Field(i))...)
		}
		return l
	case reflect.Slice:
		l := []any{v.Len(), v.Cap()}
		for i, all := 0, v.Slice(0, v.Cap()); i < all.Len(); i++ {
			l = append(l, inRoom(all.Index(i))...)
		}
		return l
	}
	return []any{v.Interface()}
}

// TestP16_1_NothingChangedOrKept: R3 of the document.
func TestP16_1_NothingChangedOrKept(t *testing.T) {
	nothingKept(t, ofAsks, append(ofAsks.some(140, 10, 3), whole[api.Ask](5)))
	nothingKept(t, ofReplies, append(ofReplies.some(141, 5, 3), whole[api.Reply](5)))
	nothingKept(t, ofStates, append(ofStates.some(142, 2, 3), whole[api.State](5)))
}

func nothingKept[T any](t *testing.T, f face[T], l []T) {
	t.Helper()
	for _, x := range l {
		given := copied(x, 3)
		as := inRoom(reflect.ValueOf(copied(x, 3)))
		b, ok := f.put(given)
		f.same(given, copied(given, 3))
		if !reflect.DeepEqual(inRoom(reflect.ValueOf(given)), as) {
			t.Fatalf("%+v was changed to %+v", x, given)
		}
		want := bytes.Clone(b)
		spoil(reflect.ValueOf(given))
		if !bytes.Equal(b, want) {
			t.Fatalf("%v, once %+v was written into, not %v", b, x, want)
		}
		for i := range b[:cap(b)] {
			b[:cap(b)][i] = 77
		}
		if again, is := f.put(x); is != ok || !bytes.Equal(again, want) {
			t.Fatalf("%v, once an answer was written into, not %v", again, want)
		}
		got := append(make([]byte, 0, len(want)+3), want...)
		y, ok := f.get(got)
		if !bytes.Equal(got[:len(want)+3], append(bytes.Clone(want), 0, 0, 0)) {
			t.Fatalf("%v was changed to %v", want, got[:len(want)+3])
		}
		for i := range got {
			got[i] = 77
		}
		if ok && !same(x, y) {
			t.Fatalf("%+v, once the bytes were written into, not %+v", y, x)
		}
		spoil(reflect.ValueOf(y))
		if again, is := f.get(want); is != ok || ok && !same(again, x) {
			t.Fatalf("%+v, once an answer was written into, not %+v", again, x)
		}
	}
}

// TestP16_1_RowsOfTheirOwn: no two rows of an answer share memory.
func TestP16_1_RowsOfTheirOwn(t *testing.T) {
	var rows []reflect.Value
	for _, x := range ofStates.some(150, 1, 3) {
		b, _ := record.PutState(x)
		y, _ := record.GetState(b)
		rows = nil
		eachField(reflect.ValueOf(&y).Elem(), "", func(_ string, v reflect.Value) {
			if v.Kind() == reflect.Slice && v.Cap() > 0 {
				rows = append(rows, v)
			}
		})
		for i, a := range rows {
			for _, b := range rows[:i] {
				first, last := a.Pointer(), a.Pointer()+uintptr(a.Cap())*a.Type().Elem().Size()
				if b.Pointer() < last && first < b.Pointer()+uintptr(b.Cap())*b.Type().Elem().Size() {
					t.Fatalf("%v and %v share memory", a, b)
				}
			}
		}
	}
}

// TestP16_1_NilAsEmpty: R4 of the document.
func TestP16_1_NilAsEmpty(t *testing.T) {
	nilAsEmpty(t, ofAsks, append(ofAsks.some(160, 10, 1), whole[api.Ask](6), api.Ask{Kind: 2}))
	nilAsEmpty(t, ofReplies, append(ofReplies.some(161, 5, 1), whole[api.Reply](6), api.Reply{}))
	nilAsEmpty(t, ofStates, append(ofStates.some(162, 5, 1), whole[api.State](6), api.State{}))
	for _, b := range [][]byte{nil, {}} {
		ofAsks.areNone(t, b)
		ofReplies.areNone(t, b)
		ofStates.areNone(t, b)
	}
}

func nilAsEmpty[T any](t *testing.T, f face[T], l []T) {
	t.Helper()
	for _, x := range l {
		nils, empty := withoutEmpty(x), copied(x, 1)
		a, is := f.put(nils)
		b, ok := f.put(empty)
		if is != ok || !bytes.Equal(a, b) || !f.same(nils, empty) || !f.same(empty, nils) {
			t.Fatalf("%+v: %v, %v, with empty rows %v, %v", x, a, is, b, ok)
		}
	}
}

// TestP16_1_SameAnswers: R5 of the document, with calls beside each other.
func TestP16_1_SameAnswers(t *testing.T) {
	sameAnswers(t, ofAsks, ofAsks.some(170, 5, 3))
	sameAnswers(t, ofReplies, ofReplies.some(171, 5, 3))
	sameAnswers(t, ofStates, ofStates.some(172, 2, 3))
}

func sameAnswers[T any](t *testing.T, f face[T], l []T) {
	t.Helper()
	for _, x := range l {
		want, _ := f.put(x)
		var all sync.WaitGroup
		for range 8 {
			all.Go(func() {
				b, ok := f.put(x)
				y, is := f.get(want)
				if !ok || !is || !bytes.Equal(b, want) || !f.same(x, y) {
					t.Errorf("%+v: others beside each other", x)
				}
			})
		}
		all.Wait()
	}
}

// TestP16_2_AnyBytes: what is read of bytes a byte or a piece away from a thing's, and of any bytes, is written as it stood.
func TestP16_2_AnyBytes(t *testing.T) {
	bytesBeside(t, ofAsks, append(ofAsks.some(200, 2, 2), api.Ask{Kind: 3, Event: someAgain}, api.Ask{Kind: 1, Settings: someSettings}), 201)
	bytesBeside(t, ofReplies, append(ofReplies.some(202, 1, 1), api.Reply{Poll: somePoll}), 203)
	bytesBeside(t, ofStates, append(ofStates.some(204, 1, 1)[:2], api.State{Users: []api.User{{Settings: someSettings, Events: []api.Entry{{Event: someAgain}}}}}), 205)
}

func bytesBeside[T any](t *testing.T, f face[T], l []T, seed int64) {
	t.Helper()
	random := rand.New(rand.NewSource(seed))
	read := 0
	ask := func(b []byte) {
		if f.isRead(t, b) {
			read++
		}
	}
	for _, x := range l {
		b, ok := f.put(x)
		if !ok {
			t.Fatalf("%+v isn't written", x)
		}
		for i := range b {
			if f.isRead(t, b[:i]) {
				t.Fatalf("%v is read, of %v", b[:i], b)
			}
			ask(slices.Delete(bytes.Clone(b), i, i+1))
			for c := range 256 {
				other := bytes.Clone(b)
				other[i] = byte(c)
				ask(other)
			}
			for _, c := range []byte{0, 1, 2, 127, 128, 255} {
				ask(slices.Insert(bytes.Clone(b), i, c))
			}
			// The same number, with a byte more than it needs, if one ends here.
			ask(slices.Insert(append(bytes.Clone(b[:i]), b[i]|128, 0), i+2, b[i+1:]...))
		}
		for c := range 256 {
			if f.isRead(t, append(bytes.Clone(b), byte(c))) {
				t.Fatalf("%v is read with %d behind it", b, c)
			}
		}
	}
	for range 30000 {
		b := make([]byte, random.Intn(30))
		for i := range b {
			b[i] = byte(random.Intn(256)) >> random.Intn(9)
		}
		ask(b)
	}
	if read < 1000 {
		t.Errorf("%s: %d were read", f.name, read)
	}
}

// TestP16_2_SmallBytes: all rows of up to two bytes, and those of three that begin with a kind of a request, or beside.
func TestP16_2_SmallBytes(t *testing.T) {
	for long := range 3 {
		for x := range 1 << (8 * long) {
			b := []byte{byte(x), byte(x >> 8)}[:long]
			ofAsks.areNone(t, b)
			ofReplies.areNone(t, b)
			ofStates.areNone(t, b)
		}
	}
	for x := range 18 << 16 {
		// The first byte is a kind's, or one that is none's.
		b := []byte{byte(x>>16) - 3, byte(x), byte(x >> 8)}
		// They are read just of AskLeave, of a Caller and a Number of a byte each.
		is := b[0] == 2 && b[1] < 128 && b[2] < 128
		if a, ok := record.GetAsk(b); ok != is || ok && (a.Caller != uint32(b[1]) || a.Number != uint64(b[2])) {
			t.Fatalf("GetAsk(%v): %+v, %v", b, a, ok)
		}
	}
}
