package record_test

import (
	"encoding/binary"
	"math"
	"math/rand"
	"reflect"

	"vespers/api"
)

// The chapter's words, as tables: what stands behind what, and which numbers are read. What goes through them asks the values for their fields by name, and takes numbers as the library writes them.

// part is one word of the chapter.
type part struct {
	name  string // the field's; none: the thing itself
	kind  byte   // 'N', 'S', 'T', 'F', 'R' of a row, 'I' of a thing in a thing, 'A' of what hangs on a flag, 'P' of a reply's poll
	low   int64  // of 'S'
	high  uint64 // of 'N' and 'S'
	most  int    // of 'R' and 'T'
	parts []part // of a row's things, of a thing in a thing, of a flag that is set
	other []part // of a flag that isn't
}

func n(name string, high uint64) part { return part{name: name, kind: 'N', high: high} }

func s(name string) part {
	return part{name: name, kind: 'S', low: math.MinInt64, high: math.MaxInt64}
}

func within(name string, far int64) part {
	return part{name: name, kind: 'S', low: -far, high: uint64(far)}
}

func text(name string, most int) part { return part{name: name, kind: 'T', most: most} }

func flag(name string) part { return part{name: name, kind: 'F'} }

func row(name string, most int, parts ...part) part {
	return part{name: name, kind: 'R', most: most, parts: parts}
}

func in(name string, parts []part) part { return part{name: name, kind: 'I', parts: parts} }

const number32 = 1<<32 - 1

var (
	shiftParts = []part{n("Days", 127), n("From", 1440), n("To", 1440)}

	settingsParts = []part{
		in("Zone", []part{within("Base", 900), row("Turns", 700, s("At"), within("Offset", 900))}),
		in("Hours", []part{row("Shifts", 10, shiftParts...), row("Off", 60, n("", 109937))}),
		n("Before", 240), n("After", 240),
	}

	ruleParts = []part{
		n("Freq", 4), n("Interval", 999), n("Count", 5000), s("Until"),
		row("ByMonth", 400, within("", 400)), row("ByMonthDay", 400, within("", 400)),
		row("ByDay", 400, within("N", 5), n("Day", 6)), row("BySetPos", 400, within("", 400)), n("Start", 6),
	}

	eventParts = []part{
		s("Start"), n("Long", 10080),
		{name: "Again", kind: 'A', other: []part{flag("World")}, parts: []part{
			in("Rule", ruleParts), row("Ex", 50, s("")), row("Plus", 50, s("")),
			row("Changes", 50, s("At"), s("Start"), n("Long", 10080)),
		}},
	}

	queryParts = []part{
		in("Window", []part{s("From"), s("To")}), n("Long", 10080), n("Grid", 1440),
		row("Must", 64, n("", number32)), row("May", 16, n("User", number32), n("Weight", 1000)), n("Seats", 100),
		row("Apart", 32, n("A", number32), n("B", number32)), row("Prefer", 8, shiftParts...),
	}

	pollParts = []part{
		n("Id", number32), n("Owner", number32), in("Query", queryParts), row("Slots", 40, s("")),
		row("Votes", 4096, n("User", number32), n("Slot", 40)), s("Until"), n("State", 4), n("Winner", 40),
	}

	replyParts = []part{
		n("Err", 13), n("Version", math.MaxUint64),
		row("Slots", 100, s("Start"), n("Weight", 100000), n("Rank", 100)), text("Cursor", 64),
		{name: "Poll", kind: 'P', parts: pollParts},
	}

	stateParts = []part{
		s("Clock"),
		row("Users", 100, n("Id", number32), in("", settingsField), n("Version", math.MaxUint64),
			row("Events", 64, n("Id", number32), in("Event", eventParts))),
		row("Polls", 50, pollParts...),
		row("Done", 4096, n("Caller", number32), n("Number", math.MaxUint64), n("Version", math.MaxUint64)),
	}

	settingsField = []part{in("Settings", settingsParts)}
)

// kindParts are those of a kind of request; false, if there is no such kind.
func kindParts(kind uint64) ([]part, bool) {
	parts, ok := map[uint64][]part{
		1:  settingsField,
		2:  nil,
		3:  {n("Id", number32), in("Event", eventParts)},
		4:  {n("Id", number32)},
		5:  {in("Query", queryParts), text("Cursor", 64), n("Count", 100)},
		6:  {n("Poll", number32), in("Query", queryParts), n("Count", 100), s("Until")},
		7:  {n("Poll", number32), n("Slot", 40), flag("Yes")},
		8:  {n("Poll", number32)},
		9:  {n("Poll", number32), n("Id", number32)},
		10: {n("Poll", number32)},
		11: {s("Until")},
	}[kind]
	return parts, ok
}

// askParts are those of a request of a kind.
func askParts(kind uint64) []part {
	parts, _ := kindParts(kind)
	return append([]part{n("Kind", 11), n("Caller", number32), n("Number", math.MaxUint64)}, parts...)
}

// field is what a part speaks of.
func field(v reflect.Value, name string) reflect.Value {
	if name == "" {
		return v
	}
	return v.FieldByName(name)
}

// numberOf is a field's number, one below 0 as it wraps.
func numberOf(v reflect.Value) uint64 {
	if v.CanInt() {
		return uint64(v.Int())
	}
	return v.Uint()
}

// putNumber makes a number a field's, if that has room for it.
func putNumber(v reflect.Value, x uint64) bool {
	if v.CanInt() {
		v.SetInt(int64(x))
		return true
	}
	v.SetUint(x)
	return v.Uint() == x
}

// writing writes things by the tables, whether they are read or not.
type writing struct {
	b     []byte
	count int    // of the numbers that were written
	place int    // of the one instead of which another one is written; below 0: none
	other uint64 // this one
}

func (w *writing) number(x uint64) {
	if w.count == w.place {
		x = w.other
	}
	w.count++
	w.b = binary.AppendUvarint(w.b, x)
}

func (w *writing) flag(is bool) {
	w.number(map[bool]uint64{true: 1}[is])
}

func (w *writing) parts(v reflect.Value, parts []part) {
	for _, p := range parts {
		x := field(v, p.name)
		switch p.kind {
		case 'N':
			w.number(numberOf(x))
		case 'S':
			signed, long := binary.Uvarint(binary.AppendVarint(nil, x.Int()))
			if long <= 0 {
				panic("no signed number")
			}
			w.number(signed)
		case 'T':
			w.number(uint64(x.Len()))
			w.b = append(w.b, x.String()...)
		case 'F':
			w.flag(x.Bool())
		case 'R':
			w.number(uint64(x.Len()))
			for i := range x.Len() {
				w.parts(x.Index(i), p.parts)
			}
		case 'I':
			w.parts(x, p.parts)
		case 'A':
			w.flag(x.Bool())
			if x.Bool() {
				w.parts(v, p.parts)
			} else {
				w.parts(v, p.other)
			}
		case 'P':
			id := x.FieldByName("Id").Uint()
			w.flag(id != 0)
			if id != 0 {
				w.parts(x, p.parts)
			}
		}
	}
}

// reading reads things by the tables.
type reading struct {
	b   []byte
	bad bool
}

func (r *reading) number(high uint64) uint64 {
	x, long := binary.Uvarint(r.b)
	if r.bad || long <= 0 || long != len(binary.AppendUvarint(nil, x)) || x > high {
		r.bad = true
		return 0
	}
	r.b = r.b[long:]
	return x
}

func (r *reading) parts(v reflect.Value, parts []part) {
	for _, p := range parts {
		x := field(v, p.name)
		switch p.kind {
		case 'N':
			if !putNumber(x, r.number(p.high)) {
				panic("no room for " + p.name)
			}
		case 'S':
			signed, _ := binary.Varint(binary.AppendUvarint(nil, r.number(math.MaxUint64)))
			if signed < p.low || signed > int64(p.high) {
				r.bad = true
			}
			x.SetInt(signed)
		case 'T':
			long := r.number(uint64(p.most))
			if long > uint64(len(r.b)) {
				r.bad, long = true, 0
			}
			x.SetString(string(r.b[:long]))
			r.b = r.b[long:]
		case 'F':
			x.SetBool(r.number(1) == 1)
		case 'R':
			for range r.number(uint64(p.most)) {
				thing := reflect.New(x.Type().Elem()).Elem()
				r.parts(thing, p.parts)
				x.Set(reflect.Append(x, thing))
				if r.bad {
					return
				}
			}
		case 'I':
			r.parts(x, p.parts)
		case 'A':
			x.SetBool(r.number(1) == 1)
			if x.Bool() {
				r.parts(v, p.parts)
			} else {
				r.parts(v, p.other)
			}
		case 'P':
			if r.number(1) == 1 {
				r.parts(x, p.parts)
				r.bad = r.bad || x.FieldByName("Id").IsZero()
			}
		}
	}
}

// what is a kind of thing with bytes: by the tables.
type what[T any] struct {
	name  string
	most  int
	parts func(T) []part
	first func(*reading) (T, []part) // what is read of a thing ahead of its parts
}

var (
	asks = what[api.Ask]{"Ask", 65536, func(a api.Ask) []part { return askParts(uint64(a.Kind)) }, func(r *reading) (api.Ask, []part) {
		kind := r.number(11)
		parts, ok := kindParts(kind)
		r.bad = r.bad || !ok
		a := api.Ask{Kind: int(kind), Caller: uint32(r.number(number32)), Number: r.number(math.MaxUint64)}
		a.User = a.Caller
		return a, parts
	}}
	replies = what[api.Reply]{"Reply", 65536, func(api.Reply) []part { return replyParts }, func(*reading) (api.Reply, []part) { return api.Reply{}, replyParts }}
	states  = what[api.State]{"State", 1048576, func(api.State) []part { return stateParts }, func(*reading) (api.State, []part) { return api.State{}, stateParts }}
)

// write are a thing's bytes, whether it is read from them or not; another number stands at a place, if that isn't below 0. How many numbers there are is told, too.
func (k what[T]) write(x T, place int, other uint64) ([]byte, int) {
	w := &writing{place: place, other: other}
	w.parts(reflect.ValueOf(x), k.parts(x))
	return w.b, w.count
}

// read is the thing of bytes.
func (k what[T]) read(b []byte) (T, bool) {
	r := &reading{b: b}
	x, parts := k.first(r)
	r.parts(reflect.ValueOf(&x).Elem(), parts)
	if r.bad || len(r.b) > 0 || len(b) > k.most {
		return *new(T), false
	}
	return x, true
}

// same tells whether two things are the same, by the library.
func same[T any](a, b T) bool {
	return reflect.DeepEqual(withoutEmpty(a), withoutEmpty(b))
}

// withoutEmpty is a thing with nil rows instead of empty ones, in memory of its own.
func withoutEmpty[T any](x T) T { return copied(x, 0) }

// copied is a thing in memory of its own, its rows with so much room behind them; with room empty rows are there instead of nil ones, too.
func copied[T any](x T, room int) T {
	v := reflect.New(reflect.TypeOf(x)).Elem()
	v.Set(reflect.ValueOf(x))
	copyRows(v, room)
	return v.Interface().(T)
}

func copyRows(v reflect.Value, room int) {
	switch v.Kind() {
	case reflect.Struct:
		for i := range v.NumField() {
			copyRows(v.Field(i), room)
		}
	case reflect.Slice:
		if v.Len()+room == 0 {
			v.SetZero()
			return
		}
		l := reflect.MakeSlice(v.Type(), v.Len(), v.Len()+room)
		reflect.Copy(l, v)
		for i := range l.Len() {
			copyRows(l.Index(i), room)
		}
		v.Set(l)
	}
}

// spoil writes into all rows of a thing, also into the room behind them.
func spoil(v reflect.Value) {
	switch v.Kind() {
	case reflect.Struct:
		for i := range v.NumField() {
			spoil(v.Field(i))
		}
	case reflect.Slice:
		l := v.Slice(0, v.Cap())
		for i := range l.Len() {
			spoil(l.Index(i))
			l.Index(i).SetZero()
		}
	}
}

// filling makes things that are read, by the tables.
type filling struct {
	random *rand.Rand
	long   func(most int) int // how many things a row has
}

// numberAt is a number from one to another one, often one at an edge.
func (f filling) numberAt(high uint64) uint64 {
	x := f.random.Uint64() >> f.random.Intn(64)
	switch f.random.Intn(6) {
	case 0:
		return 0
	case 1:
		return high
	case 2:
		return min(high, 1)
	}
	if high < math.MaxUint64 {
		x %= high + 1
	}
	return x
}

func (f filling) signedAt(p part) int64 {
	if p.low != math.MinInt64 {
		return p.low + int64(f.numberAt(p.high+uint64(-p.low)))
	}
	return int64(f.numberAt(math.MaxUint64))
}

func (f filling) textAt(most int) string {
	b := make([]byte, f.random.Intn(most+1))
	f.random.Read(b)
	return string(b)
}

func (f filling) parts(v reflect.Value, parts []part) {
	for _, p := range parts {
		x := field(v, p.name)
		switch p.kind {
		case 'N':
			putNumber(x, f.numberAt(p.high))
		case 'S':
			x.SetInt(f.signedAt(p))
		case 'T':
			x.SetString(f.textAt(p.most))
		case 'F':
			x.SetBool(f.random.Intn(2) == 0)
		case 'R':
			f.row(x, p, f.long(p.most))
		case 'I':
			f.parts(x, p.parts)
		case 'A':
			x.SetBool(f.random.Intn(2) == 0)
			if x.Bool() {
				f.parts(v, p.parts)
			} else {
				f.parts(v, p.other)
			}
		case 'P':
			f.parts(x, p.parts)
			if x.FieldByName("Id").IsZero() || f.random.Intn(4) == 0 {
				x.SetZero()
			}
		}
	}
}

// row makes a row of so many things.
func (f filling) row(v reflect.Value, p part, long int) {
	v.SetZero()
	for range long {
		thing := reflect.New(v.Type().Elem()).Elem()
		f.parts(thing, p.parts)
		v.Set(reflect.Append(v, thing))
	}
}

// fill makes a thing that is read; of requests, of a kind.
func fill[T any](f filling, k what[T], kind int) T {
	var x T
	v := reflect.ValueOf(&x).Elem()
	if a, ok := any(&x).(*api.Ask); ok {
		f.parts(v, askParts(uint64(kind)))
		a.Kind, a.User = kind, a.Caller
		return x
	}
	f.parts(v, k.parts(x))
	return x
}
