package record

import (
	"math"

	"vespers/api"
)

// The most of what is read, where package api has no limit of it.
const (
	mostDays    = 127    // of a set of weekdays
	mostInRule  = 400    // of the numbers and the days in a row of a rule's
	farInRule   = 400    // from 0, of a number in such a row
	farInMonth  = 5      // from 0, of which one of its month a weekday is
	lastWeekday = 6      // of a week
	mostSeats   = 100    // of a query
	mostVotes   = 4096   // of a poll
	mostDone    = 4096   // of a state
	mostRank    = 100    // of a slot
	mostWeighs  = 100000 // of a slot
)

// id tells the number of a user, an event or a poll.
func (p *pass) id(n uint32) uint32 { return number(p, n, math.MaxUint32) }

// anyNumber tells a number that may be any.
func (p *pass) anyNumber(n uint64) uint64 { return number(p, n, math.MaxUint64) }

// long tells how many minutes something is long.
func (p *pass) long(n int) int { return number(p, n, api.MaxLong) }

// place tells the place of one of a poll's slots.
func (p *pass) place(n int) int { return number(p, n, api.MaxSlots) }

// What follows tells what the chapter has words for, and their parts.

func (p *pass) turn(t api.Turn) api.Turn {
	return api.Turn{At: p.signed(t.At), Offset: p.within(t.Offset, api.MaxOffset)}
}

func (p *pass) shift(s api.Shift) api.Shift {
	return api.Shift{
		Days: number(p, s.Days, mostDays),
		From: number(p, s.From, api.DayLong),
		To:   number(p, s.To, api.DayLong),
	}
}

func (p *pass) dayOff(n int) int { return number(p, n, api.Days-1) }

func (p *pass) settings(s api.Settings) api.Settings {
	return api.Settings{
		Zone: api.Zone{
			Base:  p.within(s.Zone.Base, api.MaxOffset),
			Turns: row(p, s.Zone.Turns, api.MaxTurns, p.turn),
		},
		Hours: api.Hours{
			Shifts: row(p, s.Hours.Shifts, api.MaxShifts, p.shift),
			Off:    row(p, s.Hours.Off, api.MaxOff, p.dayOff),
		},
		Before: number(p, s.Before, api.MaxBuffer),
		After:  number(p, s.After, api.MaxBuffer),
	}
}

func (p *pass) rule(r api.Rule) api.Rule {
	numbers := func(l []int) []int {
		return row(p, l, mostInRule, func(n int) int { return p.within(n, farInRule) })
	}
	return api.Rule{
		Freq:       number(p, r.Freq, api.Yearly),
		Interval:   number(p, r.Interval, api.MaxInterval),
		Count:      number(p, r.Count, api.MaxCount),
		Until:      p.signed(r.Until),
		ByMonth:    numbers(r.ByMonth),
		ByMonthDay: numbers(r.ByMonthDay),
		ByDay:      row(p, r.ByDay, mostInRule, p.dayN),
		BySetPos:   numbers(r.BySetPos),
		Start:      p.weekday(r.Start),
	}
}

func (p *pass) dayN(d api.DayN) api.DayN {
	return api.DayN{N: p.within(d.N, farInMonth), Day: p.weekday(d.Day)}
}

func (p *pass) weekday(n int) int { return number(p, n, lastWeekday) }

func (p *pass) event(e api.Event) api.Event {
	x := api.Event{Start: p.signed(e.Start), Long: p.long(e.Long), Again: p.flag(e.Again)}
	if !x.Again {
		x.World = p.flag(e.World)
		return x
	}
	x.Rule = p.rule(e.Rule)
	x.Ex = row(p, e.Ex, api.MaxTimes, p.signed)
	x.Plus = row(p, e.Plus, api.MaxTimes, p.signed)
	x.Changes = row(p, e.Changes, api.MaxTimes, p.change)
	return x
}

func (p *pass) change(c api.Change) api.Change {
	return api.Change{At: p.signed(c.At), Start: p.signed(c.Start), Long: p.long(c.Long)}
}

func (p *pass) query(q api.Query) api.Query {
	return api.Query{
		Window: api.Span{From: p.signed(q.Window.From), To: p.signed(q.Window.To)},
		Long:   p.long(q.Long),
		Grid:   number(p, q.Grid, api.DayLong),
		Must:   row(p, q.Must, api.MaxMust, p.id),
		May:    row(p, q.May, api.MaxMay, p.wanted),
		Seats:  number(p, q.Seats, mostSeats),
		Apart:  row(p, q.Apart, api.MaxPairs, p.pair),
		Prefer: row(p, q.Prefer, api.MaxPrefer, p.shift),
	}
}

func (p *pass) wanted(w api.Wanted) api.Wanted {
	return api.Wanted{User: p.id(w.User), Weight: number(p, w.Weight, api.MaxWeight)}
}

func (p *pass) pair(x api.Pair) api.Pair { return api.Pair{A: p.id(x.A), B: p.id(x.B)} }

func (p *pass) poll(x api.Poll) api.Poll {
	return api.Poll{
		Id:     p.id(x.Id),
		Owner:  p.id(x.Owner),
		Query:  p.query(x.Query),
		Slots:  row(p, x.Slots, api.MaxSlots, p.signed),
		Votes:  row(p, x.Votes, mostVotes, p.vote),
		Until:  p.signed(x.Until),
		State:  number(p, x.State, api.PollExpired),
		Winner: p.place(x.Winner),
	}
}

func (p *pass) vote(v api.Vote) api.Vote { return api.Vote{User: p.id(v.User), Slot: p.place(v.Slot)} }

// ask tells a request: what all have, and what those of its kind have.
func ask(p *pass, a api.Ask) api.Ask {
	x := api.Ask{Kind: number(p, a.Kind, api.AskTick), Caller: p.id(a.Caller), Number: p.anyNumber(a.Number)}
	x.User = x.Caller
	switch x.Kind {
	case api.AskUser:
		x.Settings = p.settings(a.Settings)
	case api.AskLeave:
	case api.AskPut:
		x.Id, x.Event = p.id(a.Id), p.event(a.Event)
	case api.AskCancel:
		x.Id = p.id(a.Id)
	case api.AskFind:
		x.Query, x.Cursor, x.Count = p.query(a.Query), p.text(a.Cursor, api.MaxCursor), p.count(a.Count)
	case api.AskOpen:
		x.Poll, x.Query, x.Count, x.Until = p.id(a.Poll), p.query(a.Query), p.count(a.Count), p.signed(a.Until)
	case api.AskVote:
		x.Poll, x.Slot, x.Yes = p.id(a.Poll), p.place(a.Slot), p.flag(a.Yes)
	case api.AskClose, api.AskLook:
		x.Poll = p.id(a.Poll)
	case api.AskBook:
		x.Poll, x.Id = p.id(a.Poll), p.id(a.Id)
	case api.AskTick:
		x.Until = p.signed(a.Until)
	default:
		p.wrong = true
	}
	return x
}

func (p *pass) count(n int) int { return number(p, n, api.MaxPage) }

// reply tells a reply.
func reply(p *pass, r api.Reply) api.Reply {
	x := api.Reply{
		Err:     number(p, r.Err, api.ErrSum),
		Version: p.anyNumber(r.Version),
		Slots:   row(p, r.Slots, api.MaxPage, p.slot),
		Cursor:  p.text(r.Cursor, api.MaxCursor),
	}
	if p.flag(r.Poll.Id != 0) {
		x.Poll = p.poll(r.Poll)
		p.must(x.Poll.Id != 0)
	}
	return x
}

func (p *pass) slot(s api.Slot) api.Slot {
	return api.Slot{
		Start:  p.signed(s.Start),
		Weight: number(p, s.Weight, mostWeighs),
		Rank:   number(p, s.Rank, mostRank),
	}
}

// state tells a state.
func state(p *pass, s api.State) api.State {
	return api.State{
		Clock: p.signed(s.Clock),
		Users: row(p, s.Users, api.MaxUsers, p.user),
		Polls: row(p, s.Polls, api.MaxPolls, p.poll),
		Done:  row(p, s.Done, mostDone, p.done),
	}
}

func (p *pass) user(u api.User) api.User {
	return api.User{
		Id:       p.id(u.Id),
		Settings: p.settings(u.Settings),
		Version:  p.anyNumber(u.Version),
		Events:   row(p, u.Events, api.MaxEvents, p.entry),
	}
}

func (p *pass) entry(e api.Entry) api.Entry {
	return api.Entry{Id: p.id(e.Id), Event: p.event(e.Event)}
}

func (p *pass) done(d api.Done) api.Done {
	return api.Done{Caller: p.id(d.Caller), Number: p.anyNumber(d.Number), Version: p.anyNumber(d.Version)}
}
