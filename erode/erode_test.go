package erode_test

import (
	"math"
	"math/big"
	"math/rand"
	"slices"
	"sync"
	"testing"

	"vespers/api"
	"vespers/cursor"
	"vespers/erode"
	"vespers/span"
)

const (
	least   = math.MinInt64
	most    = math.MaxInt64
	longest = 1 << 40
)

// row is spans by their ends.
func row(ends ...int64) []api.Span {
	var l []api.Span
	for i := 0; i < len(ends); i += 2 {
		l = append(l, api.Span{From: ends[i], To: ends[i+1]})
	}
	return l
}

// pick is a picker of a row by its ends; nobody counts.
func pick(n, g int64, ends ...int64) *erode.Picker {
	return erode.Pick(cursor.Row(nil, row(ends...)), n, g)
}

// next asks a picker once: for a start, or for none.
func next(t *testing.T, p *erode.Picker, want ...int64) {
	t.Helper()
	at, ok := p.Next()
	if ok != (len(want) == 1) || !ok && at != 0 || ok && at != want[0] {
		t.Fatalf("Next: %d %v, not %v", at, ok, want)
	}
}

// all are all starts that a picker has left.
func all(p *erode.Picker) []int64 {
	var l []int64
	for at, ok := p.Next(); ok; at, ok = p.Next() {
		l = append(l, at)
	}
	return l
}

// The minutes that are looked at one by one lie from low on, ahead of high.
const (
	low  = -60
	high = 60
)

// minutes tells of each minute whether it is in a row.
func minutes(l []api.Span) []bool {
	in := make([]bool, high-low)
	for i := range in {
		in[i] = slices.ContainsFunc(l, func(s api.Span) bool { return s.From <= int64(i+low) && int64(i+low) < s.To })
	}
	return in
}

// starts are those of the chapter's words, minute by minute: of a row in its form minutes are in one span, if all of them are in.
func starts(in []bool, n, g int64) []int64 {
	n, g = max(n, 1), max(g, 1)
	var l []int64
	for i := range in {
		if int64(i+low)%g == 0 && i+int(n) <= len(in) && !slices.Contains(in[i:i+int(n)], false) {
			l = append(l, int64(i+low))
		}
	}
	return l
}

// behind are the starts that aren't ahead of a minute.
func behind(l []int64, minute int64) []int64 {
	return slices.DeleteFunc(slices.Clone(l), func(at int64) bool { return at < minute })
}

// first are so many of them at most.
func first(l []int64, n int) []int64 { return l[:min(max(n, 0), len(l))] }

// TestP15_1_ByHand: what the chapter says, written out.
func TestP15_1_ByHand(t *testing.T) {
	for _, x := range []struct {
		l    []api.Span
		n, g int64
		most int
		want []int64
	}{
		{row(5, 40), 10, 15, 9, []int64{15, 30}}, // the chapter's example
		{row(5, 40), 11, 15, 9, []int64{15}},     // 30 and the 10 behind it reach over the end
		{row(5, 40), 35, 5, 9, []int64{5}},
		{row(5, 40), 36, 5, 9, nil},
		{row(0, 10), 10, 15, 9, []int64{0}},
		{row(0, 10), 1, 10, 9, []int64{0}}, // no minute ahead of its end is 10
		{row(0, 11), 1, 10, 9, []int64{0, 10}},
		{row(1, 10), 1, 10, 9, nil},
		{row(-31, 1), 1, 15, 9, []int64{-30, -15, 0}},
		{row(-31, 1), 16, 15, 9, []int64{-30, -15}},
		{row(-31, 1), 17, 15, 9, []int64{-30}},
		{row(-30, -15), 1, 15, 9, []int64{-30}},
		{row(0, 5, 5, 10), 10, 1, 9, []int64{0}}, // in its form that is one span
		{row(6, 10, 0, 5), 5, 1, 9, []int64{0}},
		{row(0, 5, 6, 11), 6, 1, 9, nil},
		{row(20, 30, 0, 4, 2, 8, 9, 9, 50, 40), 4, 2, 9, []int64{0, 2, 4, 20, 22, 24, 26}},
		{row(0, 3), 0, 0, 9, []int64{0, 1, 2}},
		{row(0, 3), -4, least, 9, []int64{0, 1, 2}},
		{row(0, 3), least, -1, 9, []int64{0, 1, 2}},
		{row(0, 9), 1, 2, 3, []int64{0, 2, 4}},
		{row(0, 9), 1, 2, 1, []int64{0}},
		{row(0, 9), 1, 2, 0, nil},
		{row(0, 9), 1, 2, -1, nil},
		{row(0, 9), 1, 2, math.MinInt, nil},
		{row(0, 9), 1, 2, math.MaxInt, []int64{0, 2, 4, 6, 8}},
		{row(0, 9, 20, 30), 1, 9, 2, []int64{0, 27}},
		{nil, 1, 1, 9, nil},
		{row(), 1, 1, math.MaxInt, nil},
		{row(4, 4, 9, 7), 1, 1, 9, nil},
		{row(least, most), 1, longest, 2, []int64{least, least + longest}}, // 2^40 divides -2^63
		{row(0, api.Minutes), api.Minutes, api.DayLong, 9, []int64{0}},
		{row(0, api.Minutes), 1, api.Minutes - 1, 9, []int64{0, api.Minutes - 1}},
	} {
		if got := erode.Starts(x.l, x.n, x.g, x.most); !slices.Equal(got, x.want) {
			t.Errorf("%v, %d, %d, %d: %v, not %v", x.l, x.n, x.g, x.most, got, x.want)
		}
	}
}

// TestP15_1_PickerByHand: starts one by one, some of them left out.
func TestP15_1_PickerByHand(t *testing.T) {
	p := pick(10, 15, 5, 40, 58, 61, 75, 100, 120, 131)
	p.Skip(-7)
	next(t, p, 15)
	p.Skip(16)
	next(t, p, 30)
	p.Skip(30) // that was told already
	next(t, p, 75)
	p.Skip(90)
	p.Skip(76) // nothing comes back
	next(t, p, 90)
	p.Skip(least)
	next(t, p, 120)
	next(t, p)
	next(t, p)
	p.Skip(0)
	next(t, p)
	p.Skip(most)
	next(t, p)

	p = pick(1, 1, 0, 5)
	p.Skip(3) // at it is not ahead of it
	next(t, p, 3)
	next(t, p, 4)
	next(t, p)

	p = pick(1, 10, 0, 100)
	next(t, p, 0)
	p.Skip(11)
	next(t, p, 20)
	p.Skip(90)
	next(t, p, 90)
	next(t, p)

	p = pick(5, 5, 0, 12, 20, 30)
	p.Skip(6) // 10 and the four behind it aren't in one span
	next(t, p, 20)
	next(t, p, 25)
	next(t, p)

	p = pick(2, 2, -8, -3, 0, 3)
	next(t, p, -8)
	p.Skip(-5)
	next(t, p, 0)
	next(t, p)

	p = pick(1, 1, least, most)
	p.Skip(most - 1)
	next(t, p, most-1)
	next(t, p)
	p = pick(1, 1, least, most)
	p.Skip(most)
	next(t, p)
	p.Skip(0)
	next(t, p)
}

// TestP15_1_OfWhatIsLeft: a picker of a stream that was asked, or skipped, has the starts of what that one has left.
func TestP15_1_OfWhatIsLeft(t *testing.T) {
	s := cursor.Row(nil, row(0, 20, 30, 50, 60, 80))
	s.Next()
	s.Skip(41)
	p := erode.Pick(s, 5, 5)
	next(t, p, 45)
	next(t, p, 60)
	p.Skip(61)
	if got := all(p); !slices.Equal(got, []int64{65, 70, 75}) {
		t.Error(got)
	}
	s = cursor.Row(nil, row(0, 20))
	s.Skip(7)
	if got := all(erode.Pick(s, 13, 1)); !slices.Equal(got, []int64{7}) {
		t.Error(got)
	}
	s = cursor.Row(nil, row(0, 20))
	s.Next()
	next(t, erode.Pick(s, 1, 1))
}

// rowsOf are all of at most so many spans, each behind the one ahead, with their ends on some numbers.
func rowsOf(ends []int64, n int) [][]api.Span {
	all := [][]api.Span{nil}
	ahead := all
	for range n {
		var longer [][]api.Span
		for _, l := range ahead {
			for i, from := range ends {
				for _, to := range ends[i+1:] {
					if len(l) == 0 || l[len(l)-1].To <= from {
						longer = append(longer, append(slices.Clone(l), api.Span{From: from, To: to}))
					}
				}
			}
		}
		all, ahead = append(all, longer...), longer
	}
	return all
}

// TestP15_1_AllSmallRows: each row that a few minutes leave room for, each small length, each small grid, each number of starts; a picker is skipped to each minute, ahead of the first Next and behind it.
func TestP15_1_AllSmallRows(t *testing.T) {
	for _, l := range rowsOf([]int64{-4, -3, -2, -1, 0, 1, 2, 3}, 3) {
		in := minutes(l)
		for n := int64(-1); n < 6; n++ {
			for g := int64(-1); g < 6; g++ {
				want := starts(in, n, g)
				for many := -1; many < 9; many++ {
					if got := erode.Starts(l, n, g, many); !slices.Equal(got, first(want, many)) {
						t.Fatalf("%v, %d, %d, %d: %v, not %v", l, n, g, many, got, first(want, many))
					}
				}
				for minute := int64(-6); minute < 6; minute++ {
					p := erode.Pick(cursor.Row(nil, l), n, g)
					p.Skip(minute)
					if got := all(p); !slices.Equal(got, behind(want, minute)) {
						t.Fatalf("%v, %d, %d, skipped to %d: %v, not %v", l, n, g, minute, got, behind(want, minute))
					}
					p = erode.Pick(cursor.Row(nil, l), n, g)
					next(t, p, first(want, 1)...)
					p.Skip(minute)
					if got := all(p); !slices.Equal(got, behind(want[min(1, len(want)):], minute)) {
						t.Fatalf("%v, %d, %d, asked, and skipped to %d: %v of %v", l, n, g, minute, got, want)
					}
				}
			}
		}
	}
}

// numbers is where plays take theirs.
type numbers struct {
	minute func() int64
	length func() int64
}

// small are near each other, so that spans meet and all minutes lie from low to high.
func small(random *rand.Rand) numbers {
	wide := 5 + random.Int63n(60)
	return numbers{
		minute: func() int64 { return random.Int63n(wide) - 25 },
		length: func() int64 { return random.Int63n(9) - 1 },
	}
}

// edges are at all that matter.
func edges(random *rand.Rand) numbers {
	ends := []int64{least, least + 1, least + longest, least / 2, -longest, -3, -1, 0, 1, 2, 1440, api.Minutes, longest - 1, longest, longest + 1, most / 2, most - longest, most - 2, most - 1, most}
	minute := func() int64 {
		at := ends[random.Intn(len(ends))]
		if d := random.Int63n(7) - 3; random.Intn(2) == 0 && (d < 0) == (at > 0) {
			at += d
		}
		return at
	}
	return numbers{minute, func() int64 {
		if random.Intn(3) == 0 {
			return random.Int63n(5) - 1
		}
		return minute()
	}}
}

// some is a row of a few spans, in its form or not.
func some(random *rand.Rand, from numbers) []api.Span {
	var l []api.Span
	for range random.Intn(9) {
		s := api.Span{From: from.minute(), To: from.minute()}
		if s.From > s.To && random.Intn(5) > 0 {
			s.From, s.To = s.To, s.From
		}
		l = append(l, s)
	}
	return l
}

// made is a stream of some rows, by layer 14, and its row, by layer 13.
func made(random *rand.Rand, from numbers, c *cursor.Counter) (*cursor.Stream, []api.Span, int) {
	a, b := some(random, from), some(random, from)
	window := api.Span{From: from.minute(), To: from.minute()}
	ahead, behind := random.Int63n(4), random.Int63n(4)
	spans := len(span.Form(a)) + len(span.Form(b))
	x, y := cursor.Row(c, a), cursor.Row(c, b)
	switch random.Intn(7) {
	case 0:
		return cursor.Union(x, y), span.Union(a, b), spans
	case 1:
		return cursor.Meet(x, y), span.Meet(a, b), spans
	case 2:
		return cursor.Meet(x, cursor.Gaps(y, window)), span.Meet(a, span.Minus(row(window.From, window.To), b)), spans
	case 3:
		return cursor.Grow(x, ahead, behind), span.Grow(a, ahead, behind), spans
	case 4:
		busy := span.Grow(span.Union(a, b), ahead, behind)
		return cursor.Gaps(cursor.Grow(cursor.Union(x, y), ahead, behind), window), span.Minus(row(window.From, window.To), busy), spans
	case 5:
		minute := from.minute()
		x.Skip(minute)
		return x, span.Cut(a, row(minute, most)[0]), spans
	}
	return x, span.Form(a), spans
}

// played makes some calls of a picker and holds what it answers against the starts that are expected.
func played(t *testing.T, random *rand.Rand, from numbers, p *erode.Picker, want []int64) {
	t.Helper()
	for range random.Intn(20) {
		if random.Intn(3) == 0 {
			minute := from.minute()
			p.Skip(minute)
			want = behind(want, minute)
			continue
		}
		next(t, p, first(want, 1)...)
		want = want[min(1, len(want)):]
	}
	if got := all(p); !slices.Equal(got, want) {
		t.Fatalf("the rest: %v, not %v", got, want)
	}
}

// TestP15_1_MinuteByMinute: any rows, streams of streams, and any calls, held against the chapter's words.
func TestP15_1_MinuteByMinute(t *testing.T) {
	random := rand.New(rand.NewSource(15))
	found := 0
	for range 40000 {
		from := small(random)
		c := cursor.NewCounter()
		s, l, spans := made(random, from, c)
		n, g := from.length(), from.length()
		want := starts(minutes(l), n, g)
		found += len(want)
		played(t, random, from, erode.Pick(s, n, g), want)
		if c.Steps() > spans+2 {
			t.Fatalf("%d steps for %d spans of two rows", c.Steps(), spans)
		}
		l = some(random, from)
		want, many := starts(minutes(l), n, g), random.Intn(30)-2
		if got := erode.Starts(l, n, g, many); !slices.Equal(got, first(want, many)) {
			t.Fatalf("%v, %d, %d, %d: %v, not %v", l, n, g, many, got, first(want, many))
		}
	}
	if found < 100000 {
		t.Errorf("%d found", found)
	}
}

// up is the least multiple that isn't ahead of a minute, as a number of any size.
func up(minute, g int64) *big.Int {
	by := big.NewInt(max(g, 1))
	at := new(big.Int).Add(big.NewInt(minute), by)
	at.Sub(at, big.NewInt(1))
	// Div of a divisor above 0 rounds down.
	return at.Div(at, by).Mul(at, by)
}

// bigStarts are the first of a row in its form that aren't ahead of a minute, taken on numbers of any size.
func bigStarts(l []api.Span, n, g, minute int64, many int) []int64 {
	n, g = min(max(n, 1), longest), min(max(g, 1), longest)
	var found []int64
	for _, s := range l {
		at := up(max(s.From, minute), g)
		for len(found) < many {
			end := new(big.Int).Add(at, big.NewInt(n))
			if end.Cmp(big.NewInt(s.To)) > 0 {
				break
			}
			found = append(found, at.Int64())
			at = new(big.Int).Add(at, big.NewInt(g))
		}
	}
	return found
}

// TestP15_1_AllNumbers: with minutes, lengths and grids at all edges.
func TestP15_1_AllNumbers(t *testing.T) {
	random := rand.New(rand.NewSource(40))
	found := 0
	for range 60000 {
		from := edges(random)
		l, n, g := some(random, from), from.length(), from.length()
		want := bigStarts(span.Form(l), n, g, least, 7)
		found += len(want)
		if got := erode.Starts(l, n, g, 7); !slices.Equal(got, want) {
			t.Fatalf("%v, %d, %d: %v, not %v", l, n, g, got, want)
		}
		s, l, _ := made(random, from, nil)
		p := erode.Pick(s, n, g)
		minute := int64(least)
		for range 6 {
			if random.Intn(3) == 0 {
				to := from.minute()
				p.Skip(to)
				minute = max(minute, to)
			}
			want := bigStarts(l, n, g, minute, 1)
			next(t, p, want...)
			for _, at := range want {
				minute = at + 1
				found++
			}
		}
	}
	if found < 300000 {
		t.Errorf("%d found", found)
	}
}

// TestP15_1_LengthsAndGridsAreHeld: below 1 as 1, above 2^40 as that.
func TestP15_1_LengthsAndGridsAreHeld(t *testing.T) {
	for _, x := range []struct{ given, held int64 }{
		{least, 1}, {-longest, 1}, {-2, 1}, {-1, 1}, {0, 1}, {1, 1}, {2, 2}, {1440, 1440}, {1 << 31, 1 << 31}, {1<<32 + 1, 1<<32 + 1},
		{longest - 1, longest - 1}, {longest, longest}, {longest + 1, longest}, {longest + longest/2, longest}, {2 * longest, longest}, {most, longest},
	} {
		long := row(0, x.held-1, x.held, 2*x.held, 3*x.held, 4*x.held+1)
		want := []int64{x.held, 3 * x.held, 3*x.held + 1}
		p := erode.Pick(cursor.Row(nil, long), x.given, 1)
		if got := all(p); !slices.Equal(got, want) {
			t.Errorf("a length of %d: %v, not %v", x.given, got, want)
		}
		if got := erode.Starts(long, x.given, 1, 9); !slices.Equal(got, want) {
			t.Errorf("Starts, a length of %d: %v, not %v", x.given, got, want)
		}
		wide := row(1-x.held, 2*x.held+1)
		want = []int64{0, x.held, 2 * x.held}
		if got := all(erode.Pick(cursor.Row(nil, wide), 1, x.given)); !slices.Equal(got, want) {
			t.Errorf("a grid of %d: %v, not %v", x.given, got, want)
		}
		if got := erode.Starts(wide, 1, x.given, 9); !slices.Equal(got, want) {
			t.Errorf("Starts, a grid of %d: %v, not %v", x.given, got, want)
		}
	}
}

// TestP15_1_UpByHand: with grids above 2^40, too, which Up takes as they are.
func TestP15_1_UpByHand(t *testing.T) {
	for _, x := range [][3]int64{
		{0, 1, 0}, {0, 9, 0}, {0, most, 0}, {1, 9, 9}, {9, 9, 9}, {10, 9, 18}, {8, 9, 9},
		{-1, 9, 0}, {-8, 9, 0}, {-9, 9, -9}, {-10, 9, -9}, {-17, 9, -9}, {-18, 9, -18},
		{7, 1, 7}, {7, 0, 7}, {7, -9, 7}, {-7, least, -7}, {most, 1, most}, {most, -5, most}, {least, 0, least},
		{1, most, most}, {most - 1, most, most}, {most, most, most}, {-1, most, 0}, {1 - most, most, 0}, {-most, most, -most}, {least, most, -most},
		{least, 2, least}, {least, 10, least + 8}, {least, 3, least + 2}, {least, longest, least}, {least + 1, longest, least + longest},
		{most - 1, 2, most - 1}, {most, 7, most}, {most - 6, 7, most}, {most - 7, 7, most - 7}, {most - longest, longest, most - longest + 1},
		{1, 2 * longest, 2 * longest}, {2*longest + 1, 3 * longest, 3 * longest}, {most - 5, most - 5, most - 5}, {most - 6, most - 5, most - 5}, {least, most - 5, 5 - most},
	} {
		if at, ok := erode.Up(x[0], x[1]); at != x[2] || !ok {
			t.Errorf("%d, %d: %d %v, not %d", x[0], x[1], at, ok, x[2])
		}
	}
	for _, x := range [][2]int64{{most, 2}, {most, 10}, {most - 6, 10}, {most, 3}, {most, longest}, {most - longest + 2, longest}, {most, most - 1}, {most - 4, most - 5}, {most/2 + 2, most/2 + 1}, {most, 8}} {
		if at, ok := erode.Up(x[0], x[1]); at != 0 || ok {
			t.Errorf("%d, %d: %d %v", x[0], x[1], at, ok)
		}
	}
}

// TestP15_1_UpEachMinute: each small minute and grid by the chapter's words, others at all edges on numbers of any size.
func TestP15_1_UpEachMinute(t *testing.T) {
	for minute := int64(-70); minute < 70; minute++ {
		for g := int64(-2); g < 40; g++ {
			want := minute
			for want%max(g, 1) != 0 {
				want++
			}
			if at, ok := erode.Up(minute, g); at != want || !ok {
				t.Fatalf("%d, %d: %d %v, not %d", minute, g, at, ok, want)
			}
		}
	}
	random := rand.New(rand.NewSource(20))
	none := 0
	for range 300000 {
		from := edges(random)
		minute, g := from.minute(), from.length()
		if random.Intn(2) == 0 {
			minute = int64(random.Uint64() >> random.Intn(64))
		}
		if random.Intn(2) == 0 {
			g = int64(random.Uint64() >> random.Intn(64))
		}
		want := up(minute, g)
		at, ok := erode.Up(minute, g)
		if ok != want.IsInt64() || ok && at != want.Int64() || !ok && at != 0 {
			t.Fatalf("%d, %d: %d %v, not %v", minute, g, at, ok, want)
		}
		if !ok {
			none++
		}
	}
	if none < 10000 {
		t.Errorf("%d without one", none)
	}
}

// TestP15_1_NilPickers: a nil picker has none, nor has one of a nil stream (R1).
func TestP15_1_NilPickers(t *testing.T) {
	var p *erode.Picker
	for _, minute := range []int64{least, -1, 0, 1, most} {
		p.Skip(minute)
		next(t, p)
		for _, n := range []int64{least, -1, 0, 1, longest, most} {
			for _, s := range []*cursor.Stream{nil, cursor.Row(nil, nil), cursor.Union(), cursor.Meet(nil), cursor.Gaps(nil, api.Span{From: 3, To: 3})} {
				q := erode.Pick(s, n, minute)
				next(t, q)
				q.Skip(minute)
				next(t, q)
			}
		}
	}
}

// TestP15_1_NothingChangedOrKept: R3 of the document.
func TestP15_1_NothingChangedOrKept(t *testing.T) {
	given := append(row(9, 12, 1, 3, 3, 4), row(-7, 7, 50, 60)...)
	l := given[:3]
	got := erode.Starts(l, 2, 1, 9)
	if !slices.Equal(got, []int64{1, 2, 9, 10}) || !slices.Equal(given, row(9, 12, 1, 3, 3, 4, -7, 7, 50, 60)) {
		t.Errorf("%v of %v", got, given)
	}
	other := erode.Starts(l, 2, 1, 9)
	given[0] = api.Span{From: 100, To: 200}
	if !slices.Equal(got, []int64{1, 2, 9, 10}) {
		t.Errorf("kept: %v", got)
	}
	for i := range got {
		got[i] = 77
	}
	if !slices.Equal(other, []int64{1, 2, 9, 10}) {
		t.Errorf("shared: %v", other)
	}
}

// TestP15_1_SameAnswers: R5 of the document, with pickers beside each other.
func TestP15_1_SameAnswers(t *testing.T) {
	l := row(-90, 5, 7, 8, 30, 400)
	want := erode.Starts(l, 3, 7, 99)
	if len(want) < 50 {
		t.Fatalf("%v", want)
	}
	var workers sync.WaitGroup
	for i := range 8 {
		workers.Go(func() {
			p, q := erode.Pick(cursor.Row(nil, l), 3, 7), erode.Pick(cursor.Row(nil, l), 3, 7)
			q.Skip(want[i])
			got := all(p)
			if rest := all(q); !slices.Equal(got, want) || !slices.Equal(rest, want[i:]) {
				t.Errorf("%v, %v", got, rest)
			}
		})
	}
	workers.Wait()
}

// TestP15_1_FewSteps: a row is asked only once a start is asked for, and no more often than P14.2 says, however many starts there are.
func TestP15_1_FewSteps(t *testing.T) {
	c := cursor.NewCounter()
	p := erode.Pick(cursor.Row(c, row(0, 1000, 2000, 3000, 4000, 5000)), 1, 1)
	p.Skip(-5)
	if c.Steps() != 0 {
		t.Errorf("made, and skipped: %d steps", c.Steps())
	}
	for i := range int64(1000) {
		next(t, p, i)
	}
	if c.Steps() > 1 {
		t.Errorf("of the first span: %d steps", c.Steps())
	}
	if n := len(all(p)); n != 2000 || c.Steps() > 4 {
		t.Errorf("%d left, %d steps", n, c.Steps())
	}
	next(t, p)
	p.Skip(most)
	next(t, p)
	if c.Steps() > 4 {
		t.Errorf("behind the end: %d steps", c.Steps())
	}

	var l []api.Span
	for i := range int64(10000) {
		l = append(l, api.Span{From: i * 10, To: i*10 + 5})
	}
	c = cursor.NewCounter()
	// The grid has 34 minutes there, so most spans are passed over.
	if got := all(erode.Pick(cursor.Row(c, l), 1, 3001)); !slices.Equal(got, starts3001(l)) || c.Steps() > 50 {
		t.Errorf("%v, %d steps", got, c.Steps())
	}
}

// starts3001 are the multiples of 3001 that are in a row.
func starts3001(l []api.Span) []int64 {
	var found []int64
	for at := int64(0); at < 100000; at += 3001 {
		if span.Has(l, at) {
			found = append(found, at)
		}
	}
	return found
}
