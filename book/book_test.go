package book_test

import (
	"fmt"
	"hash/fnv"
	"maps"
	"math"
	"math/big"
	"math/rand"
	"reflect"
	"slices"
	"sync"
	"testing"

	"vespers/api"
	"vespers/book"
	"vespers/event"
	"vespers/hours"
	"vespers/rule"
	"vespers/zone"
)

// The tests hold the calls against the chapter's words, taken on a world of maps, and against states that are written out.

// person is a user as the words speak of one.
type person struct {
	settings api.Settings
	version  uint64
	events   map[uint32]api.Event
}

// world is a state as the words speak of one.
type world struct {
	clock int64
	users map[uint32]person
	polls []api.Poll
	done  []api.Done
}

// worldOf is the world of a state whose users and events rise.
func worldOf(s api.State) world {
	w := world{clock: s.Clock, users: map[uint32]person{}, polls: s.Polls, done: s.Done}
	for _, u := range s.Users {
		p := person{settings: u.Settings, version: u.Version, events: map[uint32]api.Event{}}
		for _, e := range u.Events {
			p.events[e.Id] = e.Event
		}
		w.users[u.Id] = p
	}
	return w
}

// state is the state of a world.
func (w world) state() api.State {
	s := api.State{Clock: w.clock, Polls: w.polls, Done: w.done}
	for _, user := range slices.Sorted(maps.Keys(w.users)) {
		p := w.users[user]
		u := api.User{Id: user, Settings: p.settings, Version: p.version}
		for _, id := range slices.Sorted(maps.Keys(p.events)) {
			u.Events = append(u.Events, api.Entry{Id: id, Event: p.events[id]})
		}
		s.Users = append(s.Users, u)
	}
	return s
}

// has tells whether a map has a key.
func has[T any](m map[uint32]T, key uint32) bool {
	_, ok := m[key]
	return ok
}

// call is one of the calls that change a state, with what it is handed beside the state.
type call struct {
	name     string
	user, id uint32
	settings api.Settings
	event    api.Event
}

// do makes a call; Leave answers no version.
func (c call) do(s api.State) (api.State, uint64, api.Errno) {
	switch c.name {
	case "PutUser":
		return book.PutUser(s, c.user, c.settings)
	case "Leave":
		left, e := book.Leave(s, c.user)
		return left, 0, e
	case "PutEvent":
		return book.PutEvent(s, c.user, c.id, c.event)
	case "Cancel":
		return book.Cancel(s, c.user, c.id)
	}
	panic("no call " + c.name)
}

// settingsByWords tells whether settings may be.
func settingsByWords(x api.Settings) bool {
	return zone.May(x.Zone) && hours.May(x.Hours) && x.Before > -1 && x.Before < 241 && x.After > -1 && x.After < 241
}

// errorByWords is the first error that applies.
func (c call) errorByWords(w world) api.Errno {
	events := w.users[c.user].events
	switch c.name {
	case "PutUser":
		if !settingsByWords(c.settings) || c.user == 0 {
			return api.ErrArg
		}
		if len(w.users) >= 100 && !has(w.users, c.user) {
			return api.ErrQuota
		}
	case "Leave":
		if !has(w.users, c.user) {
			return api.ErrUnknown
		}
	case "PutEvent":
		if !has(w.users, c.user) {
			return api.ErrUnknown
		}
		if !event.May(c.event) || c.id == 0 {
			return api.ErrArg
		}
		if len(events) >= 64 && !has(events, c.id) {
			return api.ErrQuota
		}
	case "Cancel":
		if !has(w.users, c.user) || !has(events, c.id) {
			return api.ErrUnknown
		}
	}
	return api.OK
}

// byWords is what a call comes to.
func (c call) byWords(s api.State) (api.State, uint64, api.Errno) {
	w := worldOf(s)
	if e := c.errorByWords(w); e != api.OK {
		return s, 0, e
	}
	if c.name == "Leave" {
		delete(w.users, c.user)
		w.polls = nil
		for _, p := range s.Polls {
			if p.Owner != c.user {
				w.polls = append(w.polls, p)
			}
		}
		return w.state(), 0, api.OK
	}
	p := w.users[c.user]
	if p.events == nil {
		p.events = map[uint32]api.Event{}
	}
	p.version++
	switch c.name {
	case "PutUser":
		p.settings = c.settings
	case "PutEvent":
		p.events[c.id] = c.event
	case "Cancel":
		delete(p.events, c.id)
	}
	w.users[c.user] = p
	return w.state(), p.version, api.OK
}

// versionsByWords is the sum of versions in numbers without end.
func versionsByWords(s api.State, users []uint32) uint64 {
	w := worldOf(s)
	sum := new(big.Int).SetUint64(14695981039346656037)
	end := new(big.Int).Lsh(big.NewInt(1), 64)
	for _, user := range users {
		sum.Mul(sum, big.NewInt(1099511628211))
		sum.Xor(sum, new(big.Int).SetUint64(w.users[user].version))
		sum.Mod(sum, end)
	}
	return sum.Uint64()
}

// copied is a thing in memory of its own, its rows with so much room behind them; with room empty rows are there instead of nil ones, too.
func copied[T any](x T, room int) T {
	v := reflect.ValueOf(&x).Elem()
	copyRows(v, room)
	return x
}

func copyRows(v reflect.Value, room int) {
	switch v.Kind() {
	case reflect.Struct:
		for i := range v.NumField() {
			copyRows(v.Field(i), room)
		}
	case reflect.Slice:
		if v.Len()+room == 0 {
			v.SetZero()
			return
		}
		l := reflect.MakeSlice(v.Type(), v.Len(), v.Len()+room)
		reflect.Copy(l, v)
		for i := range l.Len() {
			copyRows(l.Index(i), room)
		}
		v.Set(l)
	}
}

// same tells whether two things are the same, nil rows as empty ones.
func same[T any](a, b T) bool { return reflect.DeepEqual(copied(a, 0), copied(b, 0)) }

// withRoom is a thing whose rows have the room behind them, too.
func withRoom[T any](x T) T {
	v := reflect.ValueOf(&x).Elem()
	takeRoom(v)
	return x
}

func takeRoom(v reflect.Value) {
	switch v.Kind() {
	case reflect.Struct:
		for i := range v.NumField() {
			takeRoom(v.Field(i))
		}
	case reflect.Slice:
		if v.Cap() == 0 {
			return
		}
		// A row of its own, so that nothing is written into the one that is looked at.
		l := reflect.MakeSlice(v.Type(), v.Cap(), v.Cap())
		reflect.Copy(l, v.Slice(0, v.Cap()))
		for i := range l.Len() {
			takeRoom(l.Index(i))
		}
		v.Set(l)
	}
}

// spoil writes into all rows of a thing, also into the room behind them.
func spoil(v reflect.Value) {
	switch v.Kind() {
	case reflect.Struct:
		for i := range v.NumField() {
			spoil(v.Field(i))
		}
	case reflect.Slice:
		l := v.Slice(0, v.Cap())
		for i := range l.Len() {
			spoil(l.Index(i))
			l.Index(i).Set(reflect.Zero(l.Index(i).Type()))
		}
	}
}

// comesTo makes a call, and holds it against the words; it answers the state.
func (c call) comesTo(t *testing.T, s api.State) (api.State, api.Errno) {
	t.Helper()
	want, wantVersion, wantErr := c.byWords(s)
	got, version, e := c.do(s)
	if e != wantErr || version != wantVersion || !same(got, want) {
		t.Fatalf("%+v of %.3000s:\n%.3000s, %d, %d, not\n%.3000s, %d, %d", c, fmt.Sprintf("%+v", s), fmt.Sprintf("%+v", got), version, e, fmt.Sprintf("%+v", want), wantVersion, wantErr)
	}
	return got, e
}

// isTold holds what is asked of a state against the words.
func isTold(t *testing.T, s api.State, users, ids []uint32) {
	t.Helper()
	w := worldOf(s)
	places := map[uint32]int{}
	for place, u := range s.Users {
		places[u.Id] = place
	}
	for _, user := range users {
		var want api.User
		if has(w.users, user) {
			want = s.Users[places[user]]
		}
		if u, ok := book.Find(s, user); ok != has(w.users, user) || !same(u, want) {
			t.Fatalf("Find(%.3000s, %d): %+v, %v", fmt.Sprintf("%+v", s), user, u, ok)
		}
		for _, id := range ids {
			events := w.users[user].events
			if e, ok := book.Event(s, user, id); ok != has(events, id) || !same(e, events[id]) {
				t.Fatalf("Event(%.3000s, %d, %d): %+v, %v", fmt.Sprintf("%+v", s), user, id, e, ok)
			}
		}
	}
	if sum := book.Versions(s, users); sum != versionsByWords(s, users) {
		t.Fatalf("Versions(%.3000s, %d): %d, not %d", fmt.Sprintf("%+v", s), users, sum, versionsByWords(s, users))
	}
}

// oneOf is one thing of a row.
func oneOf[T any](random *rand.Rand, l []T) T { return l[random.Intn(len(l))] }

// numbers are some of users and of events, all edges among them.
var numbers = []uint32{0, 1, 2, 3, 7, 50, 51, 1 << 31, math.MaxUint32 - 1, math.MaxUint32}

// someSettings are such as may be, and some that may not.
func someSettings() []api.Settings {
	far := api.Settings{
		Zone:   api.Zone{Base: 60, Turns: []api.Turn{{At: 5000, Offset: 120}, {At: 9000, Offset: -900}}},
		Hours:  api.Hours{Shifts: []api.Shift{{Days: 31, From: 540, To: 1020}, {Days: 127, From: 0, To: 1440}}, Off: []int{0, 5, 109937}},
		Before: 240, After: 10,
	}
	return []api.Settings{
		{}, {Before: 10}, {After: 240}, {Zone: api.Zone{Base: -900}}, {Hours: api.Hours{Off: []int{7}}}, far,
		{Before: -1}, {After: 241}, {Zone: api.Zone{Base: 901}}, {Hours: api.Hours{Shifts: []api.Shift{{}}}},
	}
}

// againAs is an event with a thing in each of its rows.
func againAs(t *testing.T) api.Event {
	t.Helper()
	r, ok := rule.Read("FREQ=MONTHLY;BYMONTH=1,7;BYMONTHDAY=-1,15;BYDAY=MO,SU;BYSETPOS=1")
	if !ok {
		t.Fatal("no rule")
	}
	return api.Event{Start: 540, Long: 60, Again: true, Rule: r, Ex: []int64{1980, 2000}, Plus: []int64{600, 3420}, Changes: []api.Change{{At: 3420, Start: 100, Long: 5}, {At: 4000, Start: 3, Long: 0}}}
}

// someEvents are such as may be, and some that may not.
func someEvents(t *testing.T) []api.Event {
	again := againAs(t)
	wrong := again
	wrong.Ex = []int64{2, 2}
	return []api.Event{
		{Start: 5, Long: 6}, {Start: api.Minutes - 1, Long: 10080, World: true}, {Long: 1}, again, {Start: 9, Long: 1, Again: true, Rule: api.Rule{Freq: api.Daily, Interval: 1, Until: -1}},
		{}, {Start: -1, Long: 6}, {Start: 1, Long: 10081}, wrong,
	}
}

// someState has so many users, and of each so many events, of numbers among the others.
func someState(random *rand.Rand, settings []api.Settings, events []api.Event, users, entries int) api.State {
	s := api.State{Clock: 77, Done: []api.Done{{Caller: 1, Number: 9, Version: 3}, {Caller: 7, Number: 1, Version: 1}}}
	for i := range users {
		u := api.User{Id: uint32(2 + i), Settings: oneOf(random, settings[:6]), Version: random.Uint64() >> random.Intn(64)}
		for j := range entries {
			u.Events = append(u.Events, api.Entry{Id: uint32(2 + j), Event: oneOf(random, events[:5])})
		}
		s.Users = append(s.Users, u)
	}
	for id := range uint32(12) {
		s.Polls = append(s.Polls, api.Poll{Id: id, Owner: oneOf(random, numbers), Slots: []int64{int64(id)}, Query: api.Query{Must: numbers[:3]}, Votes: []api.Vote{{User: 2, Slot: 0}}})
	}
	return s
}

// someCall is a call of numbers that are often there, or anywhere.
func someCall(random *rand.Rand, s api.State, settings []api.Settings, events []api.Event) call {
	c := call{user: oneOf(random, numbers), id: oneOf(random, numbers), settings: oneOf(random, settings), event: oneOf(random, events)}
	c.name = oneOf(random, []string{"PutUser", "PutUser", "PutEvent", "PutEvent", "PutEvent", "Cancel", "Leave"})
	if len(s.Users) > 0 && random.Intn(3) > 0 {
		u := oneOf(random, s.Users)
		c.user = u.Id
		if len(u.Events) > 0 && random.Intn(3) == 0 {
			c.id = oneOf(random, u.Events).Id
		}
	}
	return c
}

// TestP17_1_AgainstTheWords: rows of any calls, from empty, small and full states on; all states on the way stay as they were.
func TestP17_1_AgainstTheWords(t *testing.T) {
	random := rand.New(rand.NewSource(17))
	settings, events := someSettings(), someEvents(t)
	told := map[string]int{}
	for _, size := range [][2]int{{0, 0}, {1, 1}, {3, 2}, {2, 62}, {2, 63}, {2, 64}, {2, 65}, {98, 1}, {99, 1}, {100, 1}, {101, 1}} {
		for range 20 {
			s := someState(random, settings, events, size[0], size[1])
			var states, were []api.State
			for range 25 {
				c := someCall(random, s, settings, events)
				states, were = append(states, s), append(were, copied(s, 0))
				next, e := c.comesTo(t, s)
				told[fmt.Sprint(c.name, int(e))]++
				s = next
				isTold(t, s, numbers, numbers)
			}
			for i := range states {
				if !same(states[i], were[i]) {
					t.Fatalf("%+v became %+v", were[i], states[i])
				}
			}
		}
	}
	for _, key := range []string{"PutUser0", "PutUser2", "PutUser6", "Leave0", "Leave4", "PutEvent0", "PutEvent2", "PutEvent4", "PutEvent6", "Cancel0", "Cancel4"} {
		if told[key] < 10 {
			t.Errorf("%s: %d", key, told[key])
		}
	}
}

// TestP17_1_EachCall: each call of each user and event beside those there are, of each settings and event.
func TestP17_1_EachCall(t *testing.T) {
	random := rand.New(rand.NewSource(18))
	settings, events := someSettings(), someEvents(t)
	s := someState(random, settings, events, 3, 3)
	s.Users[2].Id, s.Users[2].Events[2].Id = 50, 50
	s.Users[1].Events = nil
	for _, user := range append(slices.Clone(numbers), 4, 49) {
		call{name: "Leave", user: user}.comesTo(t, s)
		for _, x := range settings {
			call{name: "PutUser", user: user, settings: x}.comesTo(t, s)
		}
		for _, id := range append(slices.Clone(numbers), 4, 49) {
			call{name: "Cancel", user: user, id: id}.comesTo(t, s)
			for _, e := range events {
				call{name: "PutEvent", user: user, id: id, event: e}.comesTo(t, s)
			}
		}
	}
	isTold(t, s, append(slices.Clone(numbers), 4, 49), append(slices.Clone(numbers), 4, 49))
	isTold(t, api.State{}, numbers, numbers)
}

// TestP17_1_ExampleOfTheDocument: a new user's version is 1.
func TestP17_1_ExampleOfTheDocument(t *testing.T) {
	s, version, e := book.PutUser(api.State{}, 5, api.Settings{})
	if version != 1 || e != api.OK || !same(s, api.State{Users: []api.User{{Id: 5, Version: 1}}}) {
		t.Errorf("%+v, %d, %d", s, version, e)
	}
}

// TestP17_1_ByHand: a calendar from its beginning to its end, written out.
func TestP17_1_ByHand(t *testing.T) {
	s := api.State{Clock: 9, Polls: []api.Poll{{Id: 1, Owner: 5}, {Id: 2, Owner: 6, Query: api.Query{Must: []uint32{5}}, Votes: []api.Vote{{User: 5}}}, {Id: 3, Owner: 5}, {Id: 4}}, Done: []api.Done{{Caller: 5, Number: 7, Version: 8}}}
	one, two := api.Event{Start: 10, Long: 20}, api.Event{Start: 30, Long: 40}
	step := func(c call, wantVersion uint64, want ...api.User) {
		t.Helper()
		next, version, e := c.do(s)
		if e != api.OK || version != wantVersion || !same(next.Users, want) || next.Clock != 9 || !same(next.Done, s.Done) || c.name != "Leave" && !same(next.Polls, s.Polls) {
			t.Errorf("%s: %+v, %d, %d", c.name, next, version, e)
		}
		s = next
	}
	user := func(version uint64, before int, entries ...api.Entry) api.User {
		return api.User{Id: 5, Version: version, Settings: api.Settings{Before: before}, Events: entries}
	}
	step(call{name: "PutUser", user: 5, settings: api.Settings{Before: 1}}, 1, user(1, 1))
	step(call{name: "PutEvent", user: 5, id: 7, event: one}, 2, user(2, 1, api.Entry{Id: 7, Event: one}))
	step(call{name: "PutEvent", user: 5, id: 6, event: two}, 3, user(3, 1, api.Entry{Id: 6, Event: two}, api.Entry{Id: 7, Event: one}))
	step(call{name: "PutEvent", user: 5, id: 8, event: one}, 4, user(4, 1, api.Entry{Id: 6, Event: two}, api.Entry{Id: 7, Event: one}, api.Entry{Id: 8, Event: one}))
	// What is there is another one, or the same, and the version rises.
	step(call{name: "PutEvent", user: 5, id: 7, event: two}, 5, user(5, 1, api.Entry{Id: 6, Event: two}, api.Entry{Id: 7, Event: two}, api.Entry{Id: 8, Event: one}))
	step(call{name: "PutEvent", user: 5, id: 7, event: two}, 6, user(6, 1, api.Entry{Id: 6, Event: two}, api.Entry{Id: 7, Event: two}, api.Entry{Id: 8, Event: one}))
	step(call{name: "PutUser", user: 5, settings: api.Settings{Before: 2}}, 7, user(7, 2, api.Entry{Id: 6, Event: two}, api.Entry{Id: 7, Event: two}, api.Entry{Id: 8, Event: one}))
	step(call{name: "PutUser", user: 5, settings: api.Settings{Before: 2}}, 8, user(8, 2, api.Entry{Id: 6, Event: two}, api.Entry{Id: 7, Event: two}, api.Entry{Id: 8, Event: one}))
	step(call{name: "Cancel", user: 5, id: 7}, 9, user(9, 2, api.Entry{Id: 6, Event: two}, api.Entry{Id: 8, Event: one}))
	step(call{name: "Cancel", user: 5, id: 6}, 10, user(10, 2, api.Entry{Id: 8, Event: one}))
	step(call{name: "Cancel", user: 5, id: 8}, 11, user(11, 2))
	// Their own polls go with them; one that asks them stays, with what they said, and so does what they did.
	step(call{name: "Leave", user: 5}, 0)
	if !same(s.Polls, []api.Poll{{Id: 2, Owner: 6, Query: api.Query{Must: []uint32{5}}, Votes: []api.Vote{{User: 5}}}, {Id: 4}}) {
		t.Errorf("polls: %+v", s.Polls)
	}
	// Who comes again is new.
	step(call{name: "PutUser", user: 5, settings: api.Settings{}}, 1, user(1, 0))
}

// TestP17_1_Settings: zones, hours and buffers at all edges, each with each.
func TestP17_1_Settings(t *testing.T) {
	zones := []api.Zone{{}, {Base: 900, Turns: []api.Turn{}}, {Turns: []api.Turn{{At: 0, Offset: -900}, {At: 2880, Offset: 900}}}, {Base: 901}, {Base: math.MinInt}, {Turns: []api.Turn{{At: 1}, {At: 2880}}}, {Turns: make([]api.Turn, 701)}}
	rows := []api.Hours{{}, {Shifts: []api.Shift{}, Off: []int{}}, {Shifts: []api.Shift{{Days: 127, From: 0, To: 1440}}, Off: []int{0, 109937}}, {Shifts: []api.Shift{{Days: 128, To: 1}}}, {Shifts: make([]api.Shift, 11)}, {Off: []int{109938}}, {Off: []int{3, 3}}}
	buffers := []int{math.MinInt, -241, -240, -1, 0, 1, 239, 240, 241, math.MaxInt32, math.MaxInt}
	may := 0
	for _, z := range zones {
		for _, h := range rows {
			for _, before := range buffers {
				for _, after := range buffers {
					x := api.Settings{Zone: z, Hours: h, Before: before, After: after}
					if settingsByWords(x) {
						may++
					}
					if book.Settings(x) != settingsByWords(x) {
						t.Fatalf("Settings(%.300s): %v", fmt.Sprintf("%+v", x), book.Settings(x))
					}
					call{name: "PutUser", user: 5, settings: x}.comesTo(t, api.State{})
				}
			}
		}
	}
	if may != 3*3*4*4 {
		t.Errorf("%d may be", may)
	}
}

// TestP17_1_UsersQuota: the hundredth user is the last one, wherever their number stands; who is one is told anew.
func TestP17_1_UsersQuota(t *testing.T) {
	var s api.State
	for i := range uint32(100) {
		next, version, e := book.PutUser(s, 2*i+2, api.Settings{})
		if version != 1 || e != api.OK {
			t.Fatalf("user %d: %d, %d", 2*i+2, version, e)
		}
		s = next
	}
	for user := range uint32(204) {
		for _, x := range []api.Settings{{Before: 3}, {Before: -3}} {
			want := api.OK
			if user == 0 || x.Before < 0 {
				want = api.ErrArg
			} else if user%2 == 1 || user > 200 {
				want = api.ErrQuota
			}
			if _, e := (call{name: "PutUser", user: user, settings: x}).comesTo(t, s); e != want {
				t.Errorf("user %d: %d, not %d", user, e, want)
			}
		}
	}
	left, _ := book.Leave(s, 100)
	if _, version, e := book.PutUser(left, 3, api.Settings{}); version != 1 || e != api.OK {
		t.Errorf("once one left: %d, %d", version, e)
	}
}

// TestP17_1_EventsQuota: the sixty-fourth event of a user is the last one; others have their own.
func TestP17_1_EventsQuota(t *testing.T) {
	one := api.Event{Start: 1, Long: 2}
	s := api.State{Users: []api.User{{Id: 4}, {Id: 5}, {Id: 6}}}
	for i := range uint32(64) {
		next, version, e := book.PutEvent(s, 5, 2*i+2, one)
		if version != uint64(i)+1 || e != api.OK {
			t.Fatalf("event %d: %d, %d", 2*i+2, version, e)
		}
		s = next
	}
	for id := range uint32(132) {
		for _, x := range []api.Event{{Start: 3, Long: 4}, {}} {
			want := api.OK
			if id == 0 || x.Long == 0 {
				want = api.ErrArg
			} else if id%2 == 1 || id > 128 {
				want = api.ErrQuota
			}
			if _, e := (call{name: "PutEvent", user: 5, id: id, event: x}).comesTo(t, s); e != want {
				t.Errorf("event %d: %d, not %d", id, e, want)
			}
		}
	}
	for _, user := range []uint32{4, 6} {
		if _, version, e := book.PutEvent(s, user, 3, one); version != 1 || e != api.OK {
			t.Errorf("of the user %d: %d, %d", user, version, e)
		}
	}
	less, _, _ := book.Cancel(s, 5, 64)
	if _, version, e := book.PutEvent(less, 5, 3, one); version != 66 || e != api.OK {
		t.Errorf("once one isn't any more: %d, %d", version, e)
	}
}

// TestP17_1_FirstError: where several apply.
func TestP17_1_FirstError(t *testing.T) {
	full := someState(rand.New(rand.NewSource(19)), someSettings(), someEvents(t), 100, 64)
	wrong := api.Settings{After: 241}
	for i, x := range []struct {
		c    call
		want api.Errno
	}{
		{call{name: "PutUser", user: 0, settings: api.Settings{}}, api.ErrArg},
		{call{name: "PutUser", user: 500, settings: wrong}, api.ErrArg},
		{call{name: "PutUser", user: 500}, api.ErrQuota},
		{call{name: "PutEvent", user: 500, id: 0}, api.ErrUnknown},
		{call{name: "PutEvent", user: 500, id: 500, event: api.Event{Long: 1}}, api.ErrUnknown},
		{call{name: "PutEvent", user: 0, id: 500}, api.ErrUnknown},
		{call{name: "PutEvent", user: 5, id: 500}, api.ErrArg},
		{call{name: "PutEvent", user: 5, id: 0, event: api.Event{Long: 1}}, api.ErrArg},
		{call{name: "PutEvent", user: 5, id: 500, event: api.Event{Long: 1}}, api.ErrQuota},
		{call{name: "Cancel", user: 500, id: 5}, api.ErrUnknown},
		{call{name: "Cancel", user: 5, id: 0}, api.ErrUnknown},
		{call{name: "Leave", user: 0}, api.ErrUnknown},
	} {
		if _, e := x.c.comesTo(t, full); e != x.want {
			t.Errorf("%d: %d, not %d", i, e, x.want)
		}
	}
}

// TestP17_1_Versions: the library's sums tell of versions of a byte; others are told by the words.
func TestP17_1_Versions(t *testing.T) {
	random := rand.New(rand.NewSource(20))
	if sum := book.Versions(api.State{}, nil); sum != 14695981039346656037 {
		t.Errorf("of none: %d", sum)
	}
	for range 2000 {
		var small, any api.State
		for i := range random.Intn(20) {
			small.Users = append(small.Users, api.User{Id: uint32(2*i + 1), Version: uint64(random.Intn(256))})
			any.Users = append(any.Users, api.User{Id: uint32(2*i + 1), Version: random.Uint64() >> random.Intn(64)})
		}
		sum := fnv.New64()
		var users []uint32
		for range random.Intn(30) {
			user := uint32(random.Intn(42))
			var version uint64
			for _, u := range small.Users {
				if u.Id == user {
					version = u.Version
				}
			}
			users = append(users, user)
			sum.Write([]byte{byte(version)})
		}
		if got := book.Versions(small, users); got != sum.Sum64() || got != versionsByWords(small, users) {
			t.Fatalf("Versions(%+v, %d): %d, not %d", small, users, got, sum.Sum64())
		}
		if got := book.Versions(any, users); got != versionsByWords(any, users) {
			t.Fatalf("Versions(%+v, %d): %d, not %d", any, users, got, versionsByWords(any, users))
		}
	}
}

// TestP17_1_VersionsTellChanges: each change of one of the users is told, and of another one none.
func TestP17_1_VersionsTellChanges(t *testing.T) {
	s := someState(rand.New(rand.NewSource(21)), someSettings(), someEvents(t), 5, 3)
	users := []uint32{3, 5, 4}
	was := book.Versions(s, users)
	for user := uint32(2); user < 7; user++ {
		for _, c := range []call{{name: "PutUser", user: user}, {name: "PutEvent", user: user, id: 3, event: api.Event{Long: 1}}, {name: "Cancel", user: user, id: 3}, {name: "Leave", user: user}} {
			next, e := c.comesTo(t, s)
			if e != api.OK || (book.Versions(next, users) == was) == slices.Contains(users, user) {
				t.Errorf("%s of %d: %d", c.name, user, e)
			}
		}
	}
	if book.Versions(s, []uint32{5, 3, 4}) == was || book.Versions(s, []uint32{3, 5, 4, 99}) == was {
		t.Error("other users, or others ahead")
	}
}

// TestP17_1_VersionsWrap: one more than the greatest number of 64 bits is 0.
func TestP17_1_VersionsWrap(t *testing.T) {
	s := api.State{Users: []api.User{{Id: 5, Version: math.MaxUint64 - 1, Events: []api.Entry{{Id: 1, Event: api.Event{Long: 1}}}}}}
	for _, c := range []call{{name: "PutUser", user: 5}, {name: "PutEvent", user: 5, id: 1, event: api.Event{Long: 1}}, {name: "Cancel", user: 5, id: 1}} {
		next, version, e := c.do(s)
		if version != math.MaxUint64 || e != api.OK || next.Users[0].Version != version {
			t.Errorf("%s: %d, %d", c.name, version, e)
		}
		next.Users[0].Events = s.Users[0].Events
		next, version, e = c.do(next)
		if version != 0 || e != api.OK || next.Users[0].Version != 0 {
			t.Errorf("%s: %d, %d", c.name, version, e)
		}
	}
}

// TestP17_1_NumberNought: no user, and no event, comes to have it; but one that has it is found, and goes.
func TestP17_1_NumberNought(t *testing.T) {
	one := api.Event{Start: 3, Long: 1}
	s := api.State{Users: []api.User{{Version: 6, Events: []api.Entry{{Event: one}}}}}
	if u, ok := book.Find(s, 0); !ok || u.Version != 6 {
		t.Errorf("%+v, %v", u, ok)
	}
	if e, ok := book.Event(s, 0, 0); !ok || e.Start != 3 {
		t.Errorf("%+v, %v", e, ok)
	}
	for _, c := range []call{{name: "PutUser"}, {name: "PutEvent", event: one}, {name: "PutEvent", id: 4, event: one}, {name: "Cancel"}, {name: "Leave"}} {
		c.comesTo(t, s)
	}
}

// TestP17_1_StatesThatDontRise: whoever is there is found, wherever they stand, and isn't there any more, once they go; the others stay.
func TestP17_1_StatesThatDontRise(t *testing.T) {
	random := rand.New(rand.NewSource(22))
	one := api.Event{Start: 1, Long: 2}
	for range 3000 {
		var s api.State
		for range random.Intn(6) {
			u := api.User{Id: uint32(random.Intn(5)), Version: uint64(len(s.Users)) + 100}
			for range random.Intn(5) {
				u.Events = append(u.Events, api.Entry{Id: uint32(random.Intn(5)), Event: api.Event{Start: int64(len(u.Events)), Long: 1}})
			}
			s.Users = append(s.Users, u)
		}
		was := copied(s, 0)
		user, id := uint32(random.Intn(5)), uint32(random.Intn(5))
		u, ok := book.Find(s, user)
		is := slices.ContainsFunc(s.Users, func(u api.User) bool { return u.Id == user })
		_, entry := book.Event(s, user, id)
		if ok != is || ok && u.Id != user || entry != slices.ContainsFunc(u.Events, func(e api.Entry) bool { return e.Id == id }) {
			t.Fatalf("%+v, %d, %d: %v, %v", s, user, id, ok, entry)
		}
		others := func(l []api.User) []api.User {
			return slices.DeleteFunc(slices.Clone(l), func(u api.User) bool { return u.Id == user })
		}
		left, e := book.Leave(s, user)
		if (e == api.OK) != is || e == api.OK && !same(left.Users, others(s.Users)) {
			t.Fatalf("Leave(%+v, %d): %+v, %d", s, user, left, e)
		}
		put, _, _ := book.PutUser(s, user, api.Settings{Before: 7})
		if x, ok := book.Find(put, user); user > 0 && (!ok || x.Version != u.Version+1 || x.Settings.Before != 7 || !same(x.Events, u.Events)) || !same(others(put.Users), others(s.Users)) {
			t.Fatalf("PutUser(%+v, %d): %+v", s, user, put)
		}
		full, _, _ := book.PutEvent(s, user, id, one)
		if x, ok := book.Event(full, user, id); is && id > 0 && (!ok || !same(x, one)) || !same(others(full.Users), others(s.Users)) {
			t.Fatalf("PutEvent(%+v, %d, %d): %+v", s, user, id, full)
		}
		gone, _, e := book.Cancel(s, user, id)
		if _, ok := book.Event(gone, user, id); ok || (e == api.OK) != entry || !same(others(gone.Users), others(s.Users)) {
			t.Fatalf("Cancel(%+v, %d, %d): %+v, %d", s, user, id, gone, e)
		}
		if !same(s, was) {
			t.Fatalf("%+v became %+v", was, s)
		}
	}
}

// eachCall are calls that are done, and some that are refused, each with all that it is handed.
func eachCall(t *testing.T) []call {
	settings, again := someSettings()[5], againAs(t)
	var l []call
	for _, user := range []uint32{0, 1, 3, 4, 70} {
		l = append(l, call{name: "PutUser", user: user, settings: settings}, call{name: "Leave", user: user})
		for _, id := range []uint32{0, 1, 3, 4, 70} {
			l = append(l, call{name: "PutEvent", user: user, id: id, event: again}, call{name: "Cancel", user: user, id: id})
		}
	}
	return l
}

// TestP17_1_NothingChangedOrKept: R3 of the document, with rows that have room behind them.
func TestP17_1_NothingChangedOrKept(t *testing.T) {
	small := someState(rand.New(rand.NewSource(23)), someSettings(), someEvents(t), 3, 3)
	small.Users[1].Events = nil
	small.Users = append(small.Users, api.User{Id: 60, Events: []api.Entry{{Id: 9, Event: againAs(t)}}})
	for _, s := range []api.State{{}, small} {
		for _, c := range eachCall(t) {
			state, handed := copied(s, 2), call{name: c.name, user: c.user, id: c.id, settings: copied(c.settings, 2), event: copied(c.event, 2)}
			got, _, _ := handed.do(state)
			want := copied(got, 0)
			if !same(withRoom(state), withRoom(copied(s, 2))) || !same(withRoom(handed.settings), withRoom(copied(c.settings, 2))) || !same(withRoom(handed.event), withRoom(copied(c.event, 2))) {
				t.Fatalf("%+v: changed to %+v, of %+v", handed, state, s)
			}
			book.Settings(handed.settings)
			spoil(reflect.ValueOf(handed.settings))
			spoil(reflect.ValueOf(handed.event))
			if !same(got, want) {
				t.Fatalf("%+v: once it was written into %+v, not %+v", c, got, want)
			}
			// Another call with the same state takes none of the first one's answer.
			for _, other := range eachCall(t) {
				other.do(state)
				book.Find(state, other.user)
				book.Event(state, other.user, other.id)
			}
			if !same(got, want) {
				t.Fatalf("%+v: once others were done %+v, not %+v", c, got, want)
			}
		}
	}
	users := []uint32{4, 3, 2, 9}
	book.Versions(small, users[:3])
	if !slices.Equal(users, []uint32{4, 3, 2, 9}) {
		t.Errorf("users: %d", users)
	}
}

// TestP17_1_NilAsEmpty: R4 of the document.
func TestP17_1_NilAsEmpty(t *testing.T) {
	random := rand.New(rand.NewSource(24))
	plain := call{name: "PutEvent", user: 3, id: 4, event: api.Event{Start: 4, Long: 5}}
	for _, s := range []api.State{{}, {Users: []api.User{{Id: 3}}}, someState(random, someSettings(), someEvents(t), 3, 3)} {
		for _, c := range append(eachCall(t), plain, call{name: "PutUser", user: 3}) {
			empty := call{name: c.name, user: c.user, id: c.id, settings: copied(c.settings, 1), event: copied(c.event, 1)}
			a, version, e := c.do(copied(s, 0))
			b, other, f := empty.do(copied(s, 1))
			if !same(a, b) || version != other || e != f {
				t.Fatalf("%+v: %+v, %d, %d, with empty rows %+v, %d, %d", c, a, version, e, b, other, f)
			}
			if book.Settings(c.settings) != book.Settings(empty.settings) || book.Versions(s, nil) != book.Versions(copied(s, 1), []uint32{}) {
				t.Fatalf("%+v: others with empty rows", c)
			}
		}
	}
}

// TestP17_1_SameAnswers: R5 of the document, with calls of one state beside each other.
func TestP17_1_SameAnswers(t *testing.T) {
	s := copied(someState(rand.New(rand.NewSource(25)), someSettings(), someEvents(t), 4, 4), 3)
	for _, c := range eachCall(t) {
		want, wantVersion, wantErr := c.do(s)
		wantSum := book.Versions(s, numbers)
		var all sync.WaitGroup
		for range 8 {
			all.Go(func() {
				got, version, e := c.do(s)
				_, found := book.Find(got, c.user)
				_, there := book.Find(want, c.user)
				if !same(got, want) || version != wantVersion || e != wantErr || found != there || book.Versions(s, numbers) != wantSum {
					t.Errorf("%+v: others beside each other", c)
				}
			})
		}
		all.Wait()
	}
}
