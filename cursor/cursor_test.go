package cursor_test

import (
	"fmt"
	"math"
	"math/rand"
	"slices"
	"sync"
	"testing"

	"vespers/api"
	"vespers/cursor"
	"vespers/span"
)

const (
	least = math.MinInt64
	most  = math.MaxInt64
)

// row is spans by their ends.
func row(ends ...int64) []api.Span {
	var l []api.Span
	for i := 0; i < len(ends); i += 2 {
		l = append(l, api.Span{From: ends[i], To: ends[i+1]})
	}
	return l
}

// of is a stream of a row by its ends; nobody counts.
func of(ends ...int64) *cursor.Stream { return cursor.Row(nil, row(ends...)) }

// is holds an answer against a row.
func is(t *testing.T, got, want []api.Span, of ...any) {
	t.Helper()
	if !slices.Equal(got, want) {
		t.Fatalf("%.900s: %.300s, not %.300s", fmt.Sprint(of...), fmt.Sprint(got), fmt.Sprint(want))
	}
}

// next asks a stream once.
func next(t *testing.T, s *cursor.Stream, want ...int64) {
	t.Helper()
	x, ok := s.Next()
	if ok != (len(want) == 2) || !ok && x != (api.Span{}) || ok && x != (api.Span{From: want[0], To: want[1]}) {
		t.Fatalf("Next: %v %v, not %v", x, ok, want)
	}
}

// A plan tells what a stream is made of. It is read in three ways: as a stream; minute by minute, by the chapter's words; span by span, by layer 13, which goes as far as numbers do.

type plan struct {
	Kind          string
	Below         []plan
	Row           []api.Span
	Window        api.Span
	Ahead, Behind int64 // of starts: Ahead is how many minutes
	Calls         []call
}

// call is one that is made of a stream ahead of all others: Skip, or Next.
type call struct {
	Skips  bool
	Minute int64
}

// counted is a row's counter, and how many spans it has.
type counted struct {
	c *cursor.Counter
	l []api.Span
}

// stream is a plan's; its rows, in order, are put behind others.
func (p plan) stream(rows *[]counted) *cursor.Stream {
	var below []*cursor.Stream
	for _, b := range p.Below {
		below = append(below, b.stream(rows))
	}
	var s *cursor.Stream
	switch p.Kind {
	case "row":
		c := cursor.NewCounter()
		*rows = append(*rows, counted{c, span.Form(p.Row)})
		s = cursor.Row(c, p.Row)
	case "union":
		s = cursor.Union(below...)
	case "meet":
		s = cursor.Meet(below...)
	case "gaps":
		s = cursor.Gaps(below[0], p.Window)
	case "grow":
		s = cursor.Grow(below[0], p.Ahead, p.Behind)
	case "starts":
		s = cursor.Starts(below[0], p.Ahead)
	}
	for _, c := range p.Calls {
		if c.Skips {
			s.Skip(c.Minute)
		} else {
			s.Next()
		}
	}
	return s
}

// called is what calls leave of a row.
func called(l []api.Span, calls []call) []api.Span {
	for _, c := range calls {
		switch {
		case c.Skips:
			l = span.Cut(l, api.Span{From: c.Minute, To: most})
		case len(l) > 0:
			l = l[1:]
		}
	}
	return l
}

// spans is a plan's row, by layer 13.
func (p plan) spans() []api.Span {
	var below [][]api.Span
	for _, b := range p.Below {
		below = append(below, b.spans())
	}
	var l []api.Span
	switch p.Kind {
	case "row":
		l = span.Form(p.Row)
	case "union":
		for _, b := range below {
			l = span.Union(l, b)
		}
	case "meet":
		for i, b := range below {
			if i == 0 {
				l = b
			}
			l = span.Meet(l, b)
		}
	case "gaps":
		l = span.Minus([]api.Span{p.Window}, below[0])
	case "grow":
		l = span.Grow(below[0], p.Ahead, p.Behind)
	case "starts":
		for _, s := range below[0] {
			if n := max(p.Ahead, 1); uint64(s.To)-uint64(s.From) >= uint64(n) {
				l = append(l, api.Span{From: s.From, To: s.To - n + 1})
			}
		}
	}
	return called(l, p.Calls)
}

// The minutes that are looked at one by one lie from low on, ahead of high.
const (
	low  = -100
	high = 200
)

// minutes tells of each minute whether it is in; near low and high nothing is, so that what is grown is still within.
func (p plan) minutes() []bool {
	var below [][]bool
	for _, b := range p.Below {
		below = append(below, b.minutes())
	}
	in := make([]bool, high-low)
	for i := range in {
		in[i] = p.has(int64(i)+low, func(b int, minute int64) bool {
			return minute >= low && minute < high && below[b][minute-low]
		})
	}
	if len(p.Calls) == 0 {
		return in
	}
	left := called(runs(in), p.Calls)
	for i := range in {
		in[i] = slices.ContainsFunc(left, func(s api.Span) bool { return s.From <= int64(i)+low && int64(i)+low < s.To })
	}
	return in
}

// has tells whether a minute is in a plan's row, before calls are made of it.
func (p plan) has(minute int64, below func(b int, minute int64) bool) bool {
	all := func(from, to int64, is bool) bool {
		for m := from; m < to; m++ {
			if below(0, m) != is {
				return false
			}
		}
		return true
	}
	n := 0
	for b := range p.Below {
		if below(b, minute) {
			n++
		}
	}
	switch p.Kind {
	case "union":
		return n > 0
	case "meet":
		return n > 0 && n == len(p.Below)
	case "gaps":
		return n == 0 && p.Window.From <= minute && minute < p.Window.To
	case "grow":
		return !all(minute-max(p.Behind, 0), minute+max(p.Ahead, 0)+1, false)
	case "starts":
		return all(minute, minute+max(p.Ahead, 1), true)
	}
	return slices.ContainsFunc(p.Row, func(s api.Span) bool { return s.From <= minute && minute < s.To })
}

// runs are the minutes that are in, as a row.
func runs(in []bool) []api.Span {
	var l []api.Span
	for i, is := range in {
		switch m := int64(i) + low; {
		case !is:
		case i > 0 && in[i-1]:
			l[len(l)-1].To = m + 1
		default:
			l = append(l, api.Span{From: m, To: m + 1})
		}
	}
	return l
}

// taste is where plans take their numbers.
type taste struct {
	minute func() int64
	number func() int64
}

// some is a plan, so many kinds deep at most.
func some(random *rand.Rand, from taste, deep int) plan {
	kinds := []string{"row", "union", "meet", "gaps", "grow", "starts"}
	if deep == 0 {
		kinds = kinds[:1]
	}
	p := plan{Kind: kinds[random.Intn(len(kinds))]}
	below := 1
	switch p.Kind {
	case "row":
		below = 0
		for range random.Intn(10) {
			p.Row = append(p.Row, api.Span{From: from.minute(), To: from.minute()})
			if s := &p.Row[len(p.Row)-1]; s.From > s.To && random.Intn(4) > 0 {
				s.From, s.To = s.To, s.From
			}
		}
	case "union", "meet":
		below = max(random.Intn(5), random.Intn(2))
	case "gaps":
		p.Window = api.Span{From: from.minute(), To: from.minute()}
		if p.Window.From > p.Window.To && random.Intn(8) > 0 {
			p.Window.From, p.Window.To = p.Window.To, p.Window.From
		}
	default:
		p.Ahead, p.Behind = from.number(), from.number()
	}
	for range below {
		p.Below = append(p.Below, some(random, from, deep-1))
	}
	for range max(random.Intn(12)-9, 0) {
		p.Calls = append(p.Calls, call{random.Intn(2) == 0, from.minute()})
	}
	return p
}

// small are numbers so near each other that spans meet.
func small(random *rand.Rand) taste {
	wide := 10 + random.Int63n(70)
	return taste{
		minute: func() int64 { return random.Int63n(wide) - 5 },
		number: func() int64 { return random.Int63n(6) - 1 },
	}
}

// huge are numbers at all edges.
func huge(random *rand.Rand) taste {
	edges := []int64{least, least + 1, least + 2, least / 2, -2, -1, 0, 1, 2, 3, 1440, api.Minutes, most / 2, most/2 + 1, most - 2, most - 1, most}
	pick := func() int64 {
		if random.Intn(4) == 0 {
			return edges[random.Intn(len(edges))] / 2
		}
		return edges[random.Intn(len(edges))]
	}
	return taste{pick, func() int64 {
		if random.Intn(2) == 0 {
			return random.Int63n(5) - 1
		}
		return pick()
	}}
}

// play makes calls of a plan's stream and holds what it answers against its row, and how often rows were asked against their spans.
func play(t *testing.T, random *rand.Rand, from taste, p plan) {
	t.Helper()
	var rows []counted
	s, left := p.stream(&rows), p.spans()
	var told []string
	for range 1 + random.Intn(12) {
		if random.Intn(3) == 0 {
			c := call{true, from.minute()}
			s.Skip(c.Minute)
			left = called(left, []call{c})
			told = append(told, fmt.Sprint("Skip ", c.Minute))
			continue
		}
		x, ok := s.Next()
		told = append(told, fmt.Sprint("Next ", x))
		if !ok {
			x = api.Span{}
		}
		if ok != (len(left) > 0) || ok && x != left[0] {
			t.Fatalf("%+v: %v: %v, not %v", p, told, ok, left)
		}
		left = called(left, []call{{}})
		fewSteps(t, rows, p)
	}
	if random.Intn(4) > 0 {
		is(t, cursor.All(s), left, "All", p, told)
		fewSteps(t, rows, p)
	}
}

// fewSteps holds how often rows were asked against P14.2.
func fewSteps(t *testing.T, rows []counted, of ...any) {
	t.Helper()
	for i, r := range rows {
		if n := r.c.Steps(); n > len(r.l)+1 {
			t.Fatalf("%+v: row %d asked %d times", of, i, n)
		}
	}
}

// TestP14_1_MinuteByMinute: any streams of streams, and any calls of them, held against the chapter's words.
func TestP14_1_MinuteByMinute(t *testing.T) {
	random := rand.New(rand.NewSource(14))
	found := 0
	for range 60000 {
		from := small(random)
		p := some(random, from, random.Intn(5))
		l := p.spans()
		is(t, runs(p.minutes()), l, "the model of ", p)
		found += len(l)
		play(t, random, from, p)
	}
	if found < 35000 {
		t.Errorf("%d found", found)
	}
}

// TestP14_1_AllNumbers: with minutes and numbers at all edges.
func TestP14_1_AllNumbers(t *testing.T) {
	random := rand.New(rand.NewSource(15))
	found := 0
	for range 150000 {
		from := huge(random)
		p := some(random, from, random.Intn(5))
		found += len(p.spans())
		play(t, random, from, p)
	}
	if found < 80000 {
		t.Errorf("%d found", found)
	}
}

// rowsOf are all of at most so many spans with their ends on some numbers.
func rowsOf(ends []int64, n int) [][]api.Span {
	all := [][]api.Span{nil}
	ahead := all
	for range n {
		var longer [][]api.Span
		for _, l := range ahead {
			for i, from := range ends {
				for _, to := range ends[i+1:] {
					if len(l) == 0 || l[len(l)-1].To < from {
						longer = append(longer, append(slices.Clone(l), api.Span{From: from, To: to}))
					}
				}
			}
		}
		all, ahead = append(all, longer...), longer
	}
	return all
}

// TestP14_1_AllSmallRows: each kind, over each row, or each two or three, that a few minutes leave room for, once skipped to each of them, ahead of the first Next and behind it.
func TestP14_1_AllSmallRows(t *testing.T) {
	ends := []int64{0, 1, 2, 3, 4, 5}
	var plans []plan
	var leaves []plan
	for _, l := range rowsOf(ends, 3) {
		leaves = append(leaves, plan{Kind: "row", Row: l})
	}
	for i, a := range leaves {
		plans = append(plans, a)
		for _, b := range leaves {
			plans = append(plans, plan{Kind: "union", Below: []plan{a, b}}, plan{Kind: "meet", Below: []plan{a, b}},
				plan{Kind: "union", Below: []plan{a, b, leaves[(i*7+3)%len(leaves)]}}, plan{Kind: "meet", Below: []plan{a, b, leaves[(i*5+2)%len(leaves)]}})
		}
		for _, x := range append(ends, -1, 6, -2) {
			for _, y := range append(ends, -1, 6) {
				plans = append(plans, plan{Kind: "gaps", Below: []plan{a}, Window: api.Span{From: x, To: y}}, plan{Kind: "grow", Below: []plan{a}, Ahead: x, Behind: y})
			}
			plans = append(plans, plan{Kind: "starts", Below: []plan{a}, Ahead: x})
		}
	}
	for _, p := range plans {
		l := runs(p.minutes())
		is(t, p.spans(), l, "the model of ", p)
		for minute := int64(-2); minute < 8; minute++ {
			skip := []call{{true, minute}}
			var rows []counted
			s := p.stream(&rows)
			s.Skip(minute)
			is(t, cursor.All(s), called(l, skip), p, "skipped to ", minute)
			fewSteps(t, rows, p)
			rows = nil
			s = p.stream(&rows)
			s.Next()
			s.Skip(minute)
			is(t, cursor.All(s), called(called(l, []call{{}}), skip), p, "asked, and skipped to ", minute)
			fewSteps(t, rows, p)
		}
	}
}

// TestP14_1_ByHand: what the chapter says, written out.
func TestP14_1_ByHand(t *testing.T) {
	window := func(from, to int64) api.Span { return api.Span{From: from, To: to} }
	for i, x := range []struct {
		s    *cursor.Stream
		want []api.Span
	}{
		{cursor.Gaps(of(2, 4), window(0, 9)), row(0, 2, 4, 9)}, // the chapter's example
		{of(1, 3, 3, 5), row(1, 5)},
		{of(9, 12, 5, 5, 8, 3, 1, 2, 10, 20), row(1, 2, 9, 20)},
		{of(), nil},
		{of(least, most), row(least, most)},
		{of(least, least+1, most-1, most), row(least, least+1, most-1, most)},
		{cursor.Union(of(1, 3), of(3, 5)), row(1, 5)},
		{cursor.Union(of(3, 5), of(1, 3)), row(1, 5)},
		{cursor.Union(of(1, 3), of(4, 5)), row(1, 3, 4, 5)},
		{cursor.Union(of(0, 2, 4, 6, 8, 10), of(1, 5, 20, 30), of(5, 8)), row(0, 10, 20, 30)},
		{cursor.Union(of(1, 3)), row(1, 3)},
		{cursor.Union(nil, of(1, 3), nil), row(1, 3)},
		{cursor.Union(), nil},
		{cursor.Meet(of(1, 5), of(5, 9)), nil},
		{cursor.Meet(of(1, 5), of(0, 2, 3, 9)), row(1, 2, 3, 5)},
		{cursor.Meet(of(0, 9), of(1, 8), of(2, 7), of(3, 4, 5, 6)), row(3, 4, 5, 6)},
		{cursor.Meet(of(1, 3, 5, 6)), row(1, 3, 5, 6)},
		{cursor.Meet(), nil},
		{cursor.Meet(nil), nil},
		{cursor.Meet(nil, of(1, 3)), nil},
		{cursor.Gaps(of(0, 9), window(0, 9)), nil},
		{cursor.Gaps(of(1, 9), window(0, 9)), row(0, 1)},
		{cursor.Gaps(of(0, 8), window(0, 9)), row(8, 9)},
		{cursor.Gaps(of(-5, -1, 9, 20), window(0, 9)), row(0, 9)},
		{cursor.Gaps(of(), window(3, 3)), nil},
		{cursor.Gaps(of(), window(4, 3)), nil},
		{cursor.Gaps(nil, window(3, 4)), row(3, 4)},
		{cursor.Gaps(of(-1, 1), window(least, most)), row(least, -1, 1, most)},
		{cursor.Grow(of(10, 20), 3, 4), row(7, 24)},
		{cursor.Grow(of(10, 20, 30, 40), 5, 5), row(5, 45)},
		{cursor.Grow(of(10, 20, 30, 40), 5, 4), row(5, 24, 25, 44)},
		{cursor.Grow(of(10, 20, 30, 40), -5, 9), row(10, 29, 30, 49)},
		{cursor.Grow(of(10, 20, 30, 40), 10, least), row(0, 40)},
		{cursor.Grow(of(10, 20, 21, 40), 0, 0), row(10, 20, 21, 40)},
		{cursor.Grow(of(least+1, 0, 5, most-1), 2, 2), row(least, 2, 3, most)},
		{cursor.Grow(of(0, 1), most, most), row(-most, most)},
		{cursor.Grow(nil, 1, 1), nil},
		{cursor.Starts(of(0, 9, 20, 30, 40, 51), 10), row(20, 21, 40, 42)},
		{cursor.Starts(of(0, 2, 3, 5), 2), row(0, 1, 3, 4)},
		{cursor.Starts(of(0, 2, 3, 5), 1), row(0, 2, 3, 5)},
		{cursor.Starts(of(0, 2, 3, 5), -7), row(0, 2, 3, 5)},
		{cursor.Starts(of(0, 2, 3, 5), 3), nil},
		{cursor.Starts(of(least, most), most), row(least, 1)},
		{cursor.Starts(of(0, most), most), row(0, 1)},
		{cursor.Starts(of(1, most), most), nil},
		{cursor.Starts(nil, 1), nil},
		{cursor.Starts(cursor.Union(of(0, 5), of(5, 9)), 9), row(0, 1)},
		{cursor.Meet(cursor.Starts(of(0, 10), 4), cursor.Gaps(of(3, 5), window(0, 99))), row(0, 3, 5, 7)},
		{cursor.Union(cursor.Grow(of(10, 11, 20, 21), 1, 1), cursor.Meet(of(12, 15), of(0, 99)), of(15, 19)), row(9, 22)},
	} {
		is(t, cursor.All(x.s), x.want, i)
		next(t, x.s)
		is(t, cursor.All(x.s), nil, i)
	}
}

// TestP14_1_SkipByHand: what is left out, and what begins with the minute.
func TestP14_1_SkipByHand(t *testing.T) {
	s := of(0, 10, 20, 30, 40, 50, 60, 70)
	s.Skip(-5)
	next(t, s, 0, 10)
	s.Skip(20)
	next(t, s, 20, 30)
	s.Skip(25) // that was handed out already
	next(t, s, 40, 50)
	s.Skip(69)
	s.Skip(65) // nothing comes back
	next(t, s, 69, 70)
	next(t, s)
	s.Skip(least)
	next(t, s)

	s = of(0, 10, 20, 30)
	s.Skip(10) // ends at it
	next(t, s, 20, 30)
	s = of(0, 10, 20, 30)
	s.Skip(9)
	next(t, s, 9, 10)
	next(t, s, 20, 30)
	s = of(0, 10, 20, 30)
	s.Skip(15)
	s.Skip(21)
	is(t, cursor.All(s), row(21, 30), "between")
	s = of(0, most)
	s.Skip(most - 1)
	next(t, s, most-1, most)
	s = of(0, most)
	s.Skip(most)
	next(t, s)

	s = cursor.Union(of(0, 10), of(5, 20), of(30, 31))
	s.Skip(12)
	is(t, cursor.All(s), row(12, 20, 30, 31), "Union")
	s = cursor.Meet(of(0, 10, 20, 30), of(5, 25))
	s.Skip(7)
	is(t, cursor.All(s), row(7, 10, 20, 25), "Meet")
	s = cursor.Gaps(of(5, 10), api.Span{From: 0, To: 20})
	s.Skip(3)
	next(t, s, 3, 5)
	s.Skip(12)
	next(t, s, 12, 20)
	next(t, s)
	s = cursor.Grow(of(5, 10, 20, 30), 1, 2)
	s.Skip(11) // the minute is in for what is behind the span alone
	next(t, s, 11, 12)
	s.Skip(20)
	next(t, s, 20, 32)
	s = cursor.Starts(of(0, 10, 20, 30), 4)
	s.Skip(6)
	next(t, s, 6, 7)
	s.Skip(26)
	next(t, s, 26, 27)
	next(t, s)
}

// TestP14_1_OfWhatIsLeft: a stream of streams that were skipped, or asked, is one of what they have left.
func TestP14_1_OfWhatIsLeft(t *testing.T) {
	left := func() *cursor.Stream {
		s := of(0, 10, 20, 30, 40, 50)
		next(t, s, 0, 10)
		s.Skip(25)
		return s
	}
	is(t, cursor.All(left()), row(25, 30, 40, 50), "All")
	is(t, cursor.All(cursor.Union(left(), of(5, 6))), row(5, 6, 25, 30, 40, 50), "Union")
	is(t, cursor.All(cursor.Meet(left(), of(0, 41))), row(25, 30, 40, 41), "Meet")
	is(t, cursor.All(cursor.Gaps(left(), api.Span{From: 0, To: 60})), row(0, 25, 30, 40, 50, 60), "Gaps")
	is(t, cursor.All(cursor.Grow(left(), 3, 1)), row(22, 31, 37, 51), "Grow")
	is(t, cursor.All(cursor.Starts(left(), 6)), row(40, 45), "Starts")
	s := cursor.Union(left(), of(0, 1))
	next(t, s, 0, 1)
	is(t, cursor.All(cursor.Grow(s, 5, 0)), row(20, 30, 35, 50), "Grow of Union")
}

// steps holds counters' numbers against some.
func steps(t *testing.T, of string, got []*cursor.Counter, want ...int) {
	t.Helper()
	for i, c := range got {
		if c.Steps() != want[i] {
			t.Errorf("%s: row %d asked %d times, not %d", of, i, c.Steps(), want[i])
		}
	}
}

// atMost holds counters' numbers against bounds.
func atMost(t *testing.T, of string, got []*cursor.Counter, bound ...int) {
	t.Helper()
	for i, c := range got {
		if c.Steps() > bound[i] {
			t.Errorf("%s: row %d asked %d times, more than %d", of, i, c.Steps(), bound[i])
		}
	}
}

// counters are three.
func counters() []*cursor.Counter {
	return []*cursor.Counter{cursor.NewCounter(), cursor.NewCounter(), cursor.NewCounter()}
}

// many is a row of short spans: [0, 1), [10, 11), [20, 21) ..
func many(n int64) []api.Span {
	var l []api.Span
	for i := range n {
		l = append(l, api.Span{From: i * 10, To: i*10 + 1})
	}
	return l
}

// TestP14_1_CountsRows: each time that a stream of a row is asked, its end, too; a counter may be of many rows.
func TestP14_1_CountsRows(t *testing.T) {
	c := counters()
	s := cursor.Row(c[0], row(5, 9, 1, 3, 3, 4))
	steps(t, "made", c, 0, 0, 0)
	next(t, s, 1, 4)
	steps(t, "one", c, 1, 0, 0)
	next(t, s, 5, 9)
	steps(t, "two", c, 2, 0, 0)
	next(t, s)
	steps(t, "the end", c, 3, 0, 0)
	next(t, s)
	steps(t, "behind the end", c, 3, 0, 0)
	cursor.All(cursor.Row(c[0], row(1, 2)))
	steps(t, "another row", c, 5, 0, 0)
	cursor.All(cursor.Union(cursor.Row(c[1], many(7)), cursor.Row(c[1], many(4)), cursor.Row(c[2], nil)))
	steps(t, "rows together", c, 5, 13, 1)
	cursor.All(cursor.Row(nil, many(3)))
	steps(t, "a nil counter", c, 5, 13, 1)
}

// TestP14_1_NoFartherThanMust: a row is asked only where that may matter.
func TestP14_1_NoFartherThanMust(t *testing.T) {
	fresh := func(rows ...[]api.Span) ([]*cursor.Counter, []*cursor.Stream) {
		c := counters()
		var s []*cursor.Stream
		for i, l := range rows {
			s = append(s, cursor.Row(c[i], l))
		}
		return c, s
	}
	c, s := fresh(many(9), many(9), many(9))
	u := cursor.Union(s[0], cursor.Starts(cursor.Grow(s[1], 1, 1), 2), cursor.Gaps(cursor.Meet(s[2]), api.Span{From: 0, To: 99}))
	u.Skip(15)
	atMost(t, "made, and skipped", c, 0, 0, 0)

	c, s = fresh(row(0, 10, 20, 30), row(40, 50), row(5, 10, 60, 61))
	u = cursor.Union(s...)
	next(t, u, 0, 10)
	atMost(t, "Union: what begins behind a span doesn't lengthen it", c, 1, 1, 1)
	next(t, u, 20, 30)
	atMost(t, "Union: again", c, 2, 1, 2)

	c, s = fresh(row(0, 1000), many(100), row(999, 1001))
	u = cursor.Union(s...)
	next(t, u, 0, 1001)
	atMost(t, "Union: what lies within a span is passed over", c, 2, 2, 1)

	c, s = fresh(nil, many(9), many(9))
	m := cursor.Meet(s...)
	next(t, m)
	next(t, m)
	atMost(t, "Meet: with one of nothing", c, 1, 0, 0)

	c, s = fresh(many(9), row(40, 100), nil)
	m = cursor.Meet(s[0], s[1])
	next(t, m, 40, 41)
	atMost(t, "Meet: what lies ahead of another one's is passed over", c, 2, 1, 0)
	next(t, m, 50, 51)
	atMost(t, "Meet: one of them alone", c, 3, 1, 0)

	c, s = fresh(row(0, 1), many(9), many(9))
	m = cursor.Meet(s...)
	next(t, m, 0, 1)
	next(t, m)
	atMost(t, "Meet: where one has ended the others aren't asked", c, 2, 1, 1)

	c, s = fresh(many(100), many(100), nil)
	g := cursor.Gaps(s[0], api.Span{From: 35, To: 61})
	next(t, g, 35, 40)
	next(t, g, 41, 50)
	atMost(t, "Gaps: what ends ahead of a window is passed over", c, 2, 0, 0)
	next(t, g, 51, 60)
	next(t, g)
	atMost(t, "Gaps: nothing behind a window", c, 3, 0, 0)
	next(t, cursor.Gaps(s[1], api.Span{From: 5, To: 5}))
	next(t, cursor.Gaps(s[1], api.Span{From: 5, To: 4}))
	atMost(t, "Gaps: a window without minutes", c, 3, 0, 0)

	c, s = fresh(many(9), many(9), many(9))
	next(t, cursor.Grow(s[0], 0, 0), 0, 1)
	next(t, cursor.Grow(s[1], 5, 3), -5, 4)
	next(t, cursor.Grow(s[2], 0, most), 0, most)
	atMost(t, "Grow: the next one, if it may be grown into", c, 1, 2, 1)

	c, s = fresh(row(0, 3, 4, 7, 8, 12, 13, 99), many(9), nil)
	next(t, cursor.Starts(s[0], 4), 8, 9)
	next(t, cursor.Starts(s[1], 1), 0, 1)
	atMost(t, "Starts: no more than the first that is long enough", c, 3, 1, 0)

	c, s = fresh(row(0, 5), many(1000), many(1000))
	busy := cursor.Grow(cursor.Union(s[1], s[2]), 5, 5)
	next(t, cursor.Meet(s[0], busy), 0, 5)
	atMost(t, "Meet: where another one ends is none of its business", c, 1, 1, 1)

	c, s = fresh(row(0, 5), many(1000), nil)
	next(t, cursor.Meet(s[0], cursor.Gaps(cursor.Starts(s[1], 2), api.Span{From: 0, To: 9999})), 0, 5)
	atMost(t, "Meet: nor where another one begins again", c, 1, 2, 0)

	c, s = fresh(row(0, 45, 50, 51, 52, 53), row(40, 50, 60, 61), nil)
	m = cursor.Meet(s[0], cursor.Grow(cursor.Gaps(s[1], api.Span{From: 30, To: 50}), 0, 3))
	next(t, m, 30, 43)
	next(t, m)
	atMost(t, "Meet: what isn't in up to the end of its window has ended", c, 1, 1, 0)

	c, s = fresh(row(0, most), row(0, most), row(-1, most))
	u = cursor.Union(cursor.Meet(s[0], s[1]), s[2])
	next(t, u, -1, most)
	next(t, u)
	atMost(t, "nothing is behind the end of numbers", c, 1, 0, 1)
}

// TestP14_1_NothingOutsideWindows: nor where no window, or nothing at all, leaves a minute.
func TestP14_1_NothingOutsideWindows(t *testing.T) {
	window := func(s *cursor.Stream, from, to int64) *cursor.Stream {
		return cursor.Gaps(s, api.Span{From: from, To: to})
	}
	for i, x := range []struct {
		of    func(s *cursor.Stream) *cursor.Stream
		spans int
		steps int
	}{
		{func(s *cursor.Stream) *cursor.Stream { return cursor.Meet(s, nil) }, 0, 0},
		{func(s *cursor.Stream) *cursor.Stream { return cursor.Meet(nil, s) }, 0, 0},
		{func(s *cursor.Stream) *cursor.Stream { return cursor.Meet(s, cursor.Meet()) }, 0, 0},
		{func(s *cursor.Stream) *cursor.Stream { return cursor.Meet(s, cursor.Union()) }, 0, 0},
		{func(s *cursor.Stream) *cursor.Stream { return cursor.Meet(s, cursor.Union(nil, nil)) }, 0, 0},
		{func(s *cursor.Stream) *cursor.Stream { return cursor.Meet(s, cursor.Grow(nil, most, most)) }, 0, 0},
		{func(s *cursor.Stream) *cursor.Stream { return cursor.Meet(s, cursor.Starts(nil, 1)) }, 0, 0},
		{func(s *cursor.Stream) *cursor.Stream { return cursor.Meet(s, window(nil, 30, 30)) }, 0, 0},
		{func(s *cursor.Stream) *cursor.Stream { return cursor.Meet(s, window(nil, 30, 3)) }, 0, 0},
		{func(s *cursor.Stream) *cursor.Stream { return cursor.Meet(s, cursor.Grow(window(nil, 5, 5), 9, 9)) }, 0, 0},
		{func(s *cursor.Stream) *cursor.Stream {
			return cursor.Meet(s, cursor.Union(window(nil, 60, 60), window(nil, 20, 20), window(nil, 50, 40)))
		}, 0, 0},
		{func(s *cursor.Stream) *cursor.Stream { return cursor.Meet(window(s, 0, 50), window(nil, 50, 99)) }, 0, 0},
		{func(s *cursor.Stream) *cursor.Stream { return cursor.Meet(window(nil, 60, 99), window(s, 0, 50)) }, 0, 0},
		{func(s *cursor.Stream) *cursor.Stream {
			return cursor.Meet(s, cursor.Starts(window(nil, 25, 55), 31))
		}, 0, 0},
		{func(s *cursor.Stream) *cursor.Stream { return cursor.Starts(window(s, 11, 15), 5) }, 0, 0},
		{func(s *cursor.Stream) *cursor.Stream { return cursor.Starts(window(s, 11, 15), 4) }, 1, 1},
		{func(s *cursor.Stream) *cursor.Stream { return cursor.Meet(s, window(nil, 35, 61)) }, 3, 3},
		{func(s *cursor.Stream) *cursor.Stream { return cursor.Meet(window(nil, 35, 61), s) }, 3, 3},
		{func(s *cursor.Stream) *cursor.Stream { return cursor.Meet(s, cursor.Starts(window(nil, 25, 70), 10)) }, 4, 4},
		{func(s *cursor.Stream) *cursor.Stream { return cursor.Meet(s, cursor.Grow(window(nil, 25, 65), 5, 6)) }, 6, 6},
		{func(s *cursor.Stream) *cursor.Stream {
			return cursor.Meet(s, cursor.Union(window(nil, 5, 11), window(nil, 40, 50), window(nil, 9, 8)))
		}, 2, 4},
		{func(s *cursor.Stream) *cursor.Stream {
			later := window(nil, 0, 61)
			later.Skip(35)
			return cursor.Meet(s, later)
		}, 3, 3},
		{func(s *cursor.Stream) *cursor.Stream {
			// What has starts has none near the end of numbers, and yet has ended where its row has.
			return cursor.Meet(s, cursor.Grow(cursor.Starts(of(0, 15), 2), 0, 3))
		}, 2, 3},
	} {
		c := cursor.NewCounter()
		l := cursor.All(x.of(cursor.Row(c, many(100))))
		if len(l) != x.spans || c.Steps() > x.steps {
			t.Errorf("%d: %v, %d steps; not %d, %d at most", i, l, c.Steps(), x.spans, x.steps)
		}
	}
}

// farthest are, row by row, the minutes that may matter last, if at a minute it matters of a plan's stream; false, if none does.
func (p plan) farthest(minute int64, matters bool) (last []int64, may []bool) {
	switch p.Kind {
	case "row":
		return []int64{minute}, []bool{matters}
	case "gaps":
		matters = matters && p.Window.From < p.Window.To && p.Window.From <= minute
		minute = min(minute, p.Window.To-1)
	case "grow":
		minute += max(p.Ahead, 0)
	case "starts":
		minute += max(p.Ahead, 1) - 1
	}
	for _, b := range p.Below {
		l, m := b.farthest(minute, matters)
		last, may = append(last, l...), append(may, m...)
	}
	return last, may
}

// TestP14_1_NoFartherThanMinutesMatter: of any streams of streams; a row that was told of a span is asked again only at a minute behind it, that may matter for where the last span that was handed out ends.
func TestP14_1_NoFartherThanMinutesMatter(t *testing.T) {
	random := rand.New(rand.NewSource(16))
	held := 0
	for range 90000 {
		from := small(random)
		p := withoutCalls(some(random, from, random.Intn(5)))
		var rows []counted
		s := p.stream(&rows)
		for {
			x, ok := s.Next()
			end := x.To
			if !ok {
				end = 1 << 40
			}
			last, may := p.farthest(end, true)
			for i, r := range rows {
				n := 0
				if may[i] {
					n = 1
				}
				for _, l := range r.l {
					if may[i] && l.To < last[i] {
						n++
					}
				}
				if r.c.Steps() > n {
					t.Fatalf("%+v: %v: row %d asked %d times, not %d", p, x, i, r.c.Steps(), n)
				}
				if n <= len(r.l) {
					held++
				}
			}
			if !ok {
				break
			}
		}
	}
	if held < 100000 {
		t.Errorf("%d held", held)
	}
}

// withoutCalls is a plan of which no stream is asked, or skipped, ahead of the last one.
func withoutCalls(p plan) plan {
	p.Calls = nil
	for i := range p.Below {
		p.Below[i] = withoutCalls(p.Below[i])
	}
	return p
}

// TestP14_2_LongSpans: the number of steps doesn't hang on that of minutes.
func TestP14_2_LongSpans(t *testing.T) {
	for _, long := range []int64{1, 1000, 1 << 40, 1 << 55} {
		var l []api.Span
		for i := range int64(60) {
			l = append(l, api.Span{From: i * 2 * long, To: (i*2 + 1) * long})
		}
		window := api.Span{From: -long, To: 125 * long}
		for i, made := range []func(a, b *cursor.Stream) *cursor.Stream{
			func(a, b *cursor.Stream) *cursor.Stream { return cursor.Union(a, b) },
			func(a, b *cursor.Stream) *cursor.Stream { return cursor.Meet(a, b) },
			func(a, b *cursor.Stream) *cursor.Stream { return cursor.Meet(cursor.Gaps(a, window), b) },
			func(a, b *cursor.Stream) *cursor.Stream {
				return cursor.Gaps(cursor.Union(cursor.Grow(a, long/2, 0), b), window)
			},
			func(a, b *cursor.Stream) *cursor.Stream {
				return cursor.Starts(cursor.Union(cursor.Grow(a, 0, long), b), long/3)
			},
			func(a, b *cursor.Stream) *cursor.Stream {
				return cursor.Union(cursor.Starts(a, long), cursor.Gaps(b, window))
			},
		} {
			c := cursor.NewCounter()
			n := len(cursor.All(made(cursor.Row(c, l), cursor.Row(c, l))))
			if n > 62 || c.Steps() > 122 {
				t.Errorf("%d, of spans of %d: %d spans, %d steps", i, long, n, c.Steps())
			}
		}
	}
}

// TestP14_2_DeepStreams: streams of streams, as deep as the document goes.
func TestP14_2_DeepStreams(t *testing.T) {
	const levels = 1 << 16
	window := api.Span{From: -levels, To: 9 * levels}
	for i, made := range []func(s *cursor.Stream) *cursor.Stream{
		func(s *cursor.Stream) *cursor.Stream { return cursor.Union(s) },
		func(s *cursor.Stream) *cursor.Stream { return cursor.Meet(s, of(0, 6*levels)) },
		func(s *cursor.Stream) *cursor.Stream { return cursor.Gaps(s, window) },
		func(s *cursor.Stream) *cursor.Stream { return cursor.Grow(cursor.Starts(s, 2), 0, 1) },
		func(s *cursor.Stream) *cursor.Stream { return cursor.Starts(cursor.Grow(s, 0, 1), 2) },
		func(s *cursor.Stream) *cursor.Stream {
			return cursor.Gaps(cursor.Union(cursor.Gaps(s, window), of(window.To-1, window.To)), window)
		},
	} {
		c := cursor.NewCounter()
		l := row(0, 2, 4, 7, 3*levels, 5*levels)
		s := cursor.Row(c, l)
		for range levels {
			s = made(s)
		}
		is(t, cursor.All(s), l, i)
		if c.Steps() > 4 {
			t.Errorf("%d: %d steps", i, c.Steps())
		}
	}
}

// TestP14_2_ManyStreams: of many rows, and of many spans.
func TestP14_2_ManyStreams(t *testing.T) {
	const n = 2000
	c := cursor.NewCounter()
	var apart, chain, within []*cursor.Stream
	for i := range int64(n) {
		apart = append(apart, cursor.Row(c, row(i*3, i*3+2, i*3+10*n, i*3+10*n+2)))
		chain = append(chain, cursor.Row(c, row(n-i, n-i+1)))
		within = append(within, cursor.Row(c, row(-i, i+1, 5*n-i, 5*n+1)))
	}
	if l := cursor.All(cursor.Union(apart...)); len(l) != 2*n || !span.May(l) || c.Steps() > 3*n {
		t.Errorf("apart: %d spans, %d steps", len(l), c.Steps())
	}
	is(t, cursor.All(cursor.Union(chain...)), row(1, n+1), "chain")
	is(t, cursor.All(cursor.Meet(within...)), row(0, 1, 5*n, 5*n+1), "within")
	if c.Steps() > 8*n {
		t.Errorf("%d steps", c.Steps())
	}
	c = cursor.NewCounter()
	l := many(200000)
	is(t, cursor.All(cursor.Union(cursor.Row(c, l), cursor.Row(c, l[:7]))), l, "long")
	if c.Steps() > 200009 {
		t.Errorf("%d steps", c.Steps())
	}
}

// TestP14_1_NilStreams: a nil stream is one without spans, a nil counter is 0 (R1).
func TestP14_1_NilStreams(t *testing.T) {
	var c *cursor.Counter
	var s *cursor.Stream
	s.Skip(5)
	next(t, s)
	is(t, cursor.All(s), nil, "nil")
	if c.Steps() != 0 || cursor.NewCounter() == nil || cursor.NewCounter().Steps() != 0 {
		t.Error("counters")
	}
	for _, none := range [][]api.Span{nil, {}, row(5, 5), row(6, 5, 1, 1)} {
		c := cursor.NewCounter()
		s := cursor.Row(c, none)
		next(t, s)
		next(t, s)
		if c.Steps() != 1 {
			t.Errorf("%v: %d steps", none, c.Steps())
		}
	}
	for _, l := range [][]*cursor.Stream{nil, {}, {nil}, {nil, nil}} {
		next(t, cursor.Union(l...))
		next(t, cursor.Meet(l...))
	}
	for _, n := range []int64{least, -1, 0, 1, most} {
		for _, m := range []int64{least, -1, 0, 1, most} {
			next(t, cursor.Grow(nil, n, m))
			is(t, cursor.All(cursor.Gaps(nil, api.Span{From: n, To: m})), span.Form(row(n, m)), "Gaps")
		}
		next(t, cursor.Starts(nil, n))
	}
}

// TestP14_1_NothingChangedOrKept: R3 of the document.
func TestP14_1_NothingChangedOrKept(t *testing.T) {
	given := append(row(9, 12, 1, 3, 3, 4), row(-7, 7, 50, 60)...)
	l := given[:3]
	s := cursor.Row(nil, l)
	if !slices.Equal(given, row(9, 12, 1, 3, 3, 4, -7, 7, 50, 60)) {
		t.Errorf("changed to %v", given)
	}
	next(t, s, 1, 4)
	for i := range given {
		given[i] = api.Span{From: 20, To: 30}
	}
	next(t, s, 9, 12)
	next(t, s)

	inForm := row(1, 3, 5, 9)
	s = cursor.Row(nil, inForm)
	inForm[0], inForm[1] = api.Span{From: 7, To: 8}, api.Span{}
	is(t, cursor.All(s), row(1, 3, 5, 9), "in its form")

	for _, made := range []func(l ...*cursor.Stream) *cursor.Stream{cursor.Union, cursor.Meet} {
		streams := []*cursor.Stream{of(1, 5), of(1, 5), of(20, 30)}
		s = made(streams[:2]...)
		if streams[0] == nil || streams[1] == nil || streams[2] == nil {
			t.Error("streams changed")
		}
		streams[0], streams[1] = streams[2], nil
		is(t, cursor.All(s), row(1, 5), "streams kept")
	}

	s = of(1, 3, 5, 9, 20, 30)
	next(t, s, 1, 3)
	a := cursor.All(s)
	b := cursor.All(of(5, 9, 20, 30))
	a[0] = api.Span{}
	is(t, b, row(5, 9, 20, 30), "answers share")
}

// TestP14_1_SameAnswers: R5 of the document, with streams beside each other.
func TestP14_1_SameAnswers(t *testing.T) {
	random := rand.New(rand.NewSource(5))
	for range 300 {
		p := some(random, small(random), 4)
		var rows []counted
		want := cursor.All(p.stream(&rows))
		var all sync.WaitGroup
		for range 8 {
			all.Go(func() {
				var others []counted
				if got := cursor.All(p.stream(&others)); !slices.Equal(got, want) {
					t.Errorf("%+v: %v, not %v", p, got, want)
				}
				for i, r := range others {
					if r.c.Steps() != rows[i].c.Steps() {
						t.Errorf("%+v: row %d: %d steps, not %d", p, i, r.c.Steps(), rows[i].c.Steps())
					}
				}
			})
		}
		all.Wait()
	}
}

// TestP14_1_OneStreamTwice: a stream belongs to the one that is made of it, so nobody says what becomes of one that is handed in twice; but each call ends (R1), and what it answers rises.
func TestP14_1_OneStreamTwice(t *testing.T) {
	random := rand.New(rand.NewSource(6))
	for range 3000 {
		from := small(random)
		c := cursor.NewCounter()
		l := row(0, 3, 5, 6, 9, 20, 25, 30)
		s := cursor.Row(c, l)
		for range 40 {
			switch random.Intn(6) {
			case 0:
				s = cursor.Union(s, s)
			case 1:
				s = cursor.Meet(s, cursor.Grow(s, from.number(), from.number()))
			case 2:
				s = cursor.Union(cursor.Gaps(s, api.Span{From: from.minute(), To: 40}), s)
			case 3:
				s = cursor.Meet(cursor.Starts(s, from.number()), s, s)
			case 4:
				s = cursor.Union(cursor.Starts(s, from.number()), cursor.Grow(s, 1, 1))
			case 5:
				below := s
				s = cursor.Meet(s, s)
				below.Skip(from.minute())
				below.Next()
			}
		}
		if got := cursor.All(s); !span.May(got) || c.Steps() > len(l)+1 {
			t.Fatalf("%v, %d steps", got, c.Steps())
		}
	}
	is(t, cursor.All(cursor.Meet(cursor.Row(nil, many(5)))), many(5), "once")
}
