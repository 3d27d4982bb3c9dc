package record

import (
	"slices"

	"vespers/api"
	"vespers/rule"
)

// SameAsk tells whether two requests are the same.
func SameAsk(a, b api.Ask) bool {
	return a.Kind == b.Kind && a.Caller == b.Caller && a.Number == b.Number &&
		a.User == b.User && a.Id == b.Id && a.Poll == b.Poll &&
		a.Cursor == b.Cursor && a.Count == b.Count &&
		a.Slot == b.Slot && a.Yes == b.Yes && a.Until == b.Until &&
		sameSettings(a.Settings, b.Settings) &&
		sameEvent(a.Event, b.Event) &&
		sameQuery(a.Query, b.Query)
}

// SameReply tells whether two replies are the same.
func SameReply(a, b api.Reply) bool {
	return a.Err == b.Err && a.Version == b.Version && a.Cursor == b.Cursor &&
		slices.Equal(a.Slots, b.Slots) &&
		samePoll(a.Poll, b.Poll)
}

// SameState tells whether two states are the same.
func SameState(a, b api.State) bool {
	return a.Clock == b.Clock &&
		slices.EqualFunc(a.Users, b.Users, sameUser) &&
		slices.EqualFunc(a.Polls, b.Polls, samePoll) &&
		slices.Equal(a.Done, b.Done)
}

func sameSettings(a, b api.Settings) bool {
	return a.Before == b.Before && a.After == b.After &&
		a.Zone.Base == b.Zone.Base &&
		slices.Equal(a.Zone.Turns, b.Zone.Turns) &&
		slices.Equal(a.Hours.Shifts, b.Hours.Shifts) &&
		slices.Equal(a.Hours.Off, b.Hours.Off)
}

func sameEvent(a, b api.Event) bool {
	return a.Start == b.Start && a.Long == b.Long && a.World == b.World && a.Again == b.Again &&
		rule.Same(a.Rule, b.Rule) &&
		slices.Equal(a.Ex, b.Ex) &&
		slices.Equal(a.Plus, b.Plus) &&
		slices.Equal(a.Changes, b.Changes)
}

func sameQuery(a, b api.Query) bool {
	return a.Window == b.Window && a.Long == b.Long && a.Grid == b.Grid && a.Seats == b.Seats &&
		slices.Equal(a.Must, b.Must) &&
		slices.Equal(a.May, b.May) &&
		slices.Equal(a.Apart, b.Apart) &&
		slices.Equal(a.Prefer, b.Prefer)
}

func samePoll(a, b api.Poll) bool {
	return a.Id == b.Id && a.Owner == b.Owner && a.Until == b.Until && a.State == b.State && a.Winner == b.Winner &&
		sameQuery(a.Query, b.Query) &&
		slices.Equal(a.Slots, b.Slots) &&
		slices.Equal(a.Votes, b.Votes)
}

func sameUser(a, b api.User) bool {
	return a.Id == b.Id && a.Version == b.Version &&
		sameSettings(a.Settings, b.Settings) &&
		slices.EqualFunc(a.Events, b.Events, sameEntry)
}

func sameEntry(a, b api.Entry) bool { return a.Id == b.Id && sameEvent(a.Event, b.Event) }
