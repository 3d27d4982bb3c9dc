package span_test

import (
	"cmp"
	"fmt"
	"math"
	"math/big"
	"math/rand"
	"slices"
	"sync"
	"testing"

	"vespers/api"
	"vespers/span"
)

// The tests hold the calls against the chapter's words on a scale: numbers in order, such that all ends that a test has are among them. What lies from one of them ahead of the next one is in a row as a whole or not at all; with numbers that are next to each other each such piece is a minute.

type scale []int64

const (
	least = math.MinInt64
	most  = math.MaxInt64
)

var (
	minutes = scale{-2, -1, 0, 1, 2, 3}
	edges   = scale{least, least + 1, 0, 1, most - 1, most}
	wide    = scale{least, -5, -1, 0, api.Minutes, most}
)

// spans are all that have their ends on a scale, those without a minute, too.
func (e scale) spans() []api.Span {
	var l []api.Span
	for _, from := range e {
		for _, to := range e {
			l = append(l, api.Span{From: from, To: to})
		}
	}
	return l
}

// rows are all of at most so many spans out of some.
func rows(of []api.Span, n int) [][]api.Span {
	all := [][]api.Span{nil}
	ahead := all
	for range n {
		var longer [][]api.Span
		for _, row := range ahead {
			for _, s := range of {
				longer = append(longer, append(slices.Clone(row), s))
			}
		}
		all, ahead = append(all, longer...), longer
	}
	return all
}

// pieces tells of each piece of a scale whether it is in a row.
func (e scale) pieces(l []api.Span) []bool {
	is := make([]bool, len(e)-1)
	for i := range is {
		for _, s := range l {
			if s.From <= e[i] && e[i+1] <= s.To {
				is[i] = true
			}
		}
	}
	return is
}

// runs are the pieces that are in, as a row in its form.
func (e scale) runs(in func(i int) bool) []api.Span {
	var row []api.Span
	for i := range len(e) - 1 {
		switch {
		case !in(i):
		case i > 0 && in(i-1):
			row[len(row)-1].To = e[i+1]
		default:
			row = append(row, api.Span{From: e[i], To: e[i+1]})
		}
	}
	return row
}

// is holds an answer against a row.
func is(t *testing.T, got, want []api.Span, of ...any) {
	t.Helper()
	if !slices.Equal(got, want) {
		t.Fatalf("%.300s: %.300s, not %.300s", fmt.Sprint(of...), fmt.Sprint(got), fmt.Sprint(want))
	}
}

// hasForm asks for all that is answered of a row alone.
func (e scale) hasForm(t *testing.T, l []api.Span) {
	t.Helper()
	in := e.pieces(l)
	want := e.runs(func(i int) bool { return in[i] })
	is(t, span.Form(l), want, "Form", l)
	if may := slices.Equal(l, want); span.May(l) != may {
		t.Fatalf("May(%v): not %v", l, may)
	}
	sum := new(big.Int)
	for i := range in {
		if in[i] {
			sum.Add(sum, new(big.Int).Sub(big.NewInt(e[i+1]), big.NewInt(e[i])))
		}
		if span.Has(l, e[i]) != in[i] || span.Has(l, e[i+1]-1) != in[i] {
			t.Fatalf("Has(%v, %d or %d): not %v", l, e[i], e[i+1]-1, in[i])
		}
	}
	if span.Minutes(l) != sum.Uint64() || !sum.IsUint64() {
		t.Fatalf("Minutes(%v): %d, not %v", l, span.Minutes(l), sum)
	}
	if end := e[len(e)-1]; span.Has(l, end) || e[0] != least && span.Has(l, e[0]-1) {
		t.Fatalf("Has(%v, %d or %d)", l, end, e[0]-1)
	}
}

// hasTwo asks for all that is answered of two rows.
func (e scale) hasTwo(t *testing.T, a, b []api.Span) {
	t.Helper()
	inA, inB := e.pieces(a), e.pieces(b)
	is(t, span.Union(a, b), e.runs(func(i int) bool { return inA[i] || inB[i] }), "Union", a, b)
	is(t, span.Meet(a, b), e.runs(func(i int) bool { return inA[i] && inB[i] }), "Meet", a, b)
	is(t, span.Minus(a, b), e.runs(func(i int) bool { return inA[i] && !inB[i] }), "Minus", a, b)
}

// hasCut asks for what is in a window.
func (e scale) hasCut(t *testing.T, l []api.Span, window api.Span) {
	t.Helper()
	in := e.pieces(l)
	want := e.runs(func(i int) bool { return in[i] && window.From <= e[i] && e[i+1] <= window.To })
	is(t, span.Cut(l, window), want, "Cut", l, window)
}

// moved is a number and another one, as far as there are numbers of 64 bits.
func moved(n, by int64) int64 {
	sum := new(big.Int).Add(big.NewInt(n), big.NewInt(by))
	switch {
	case sum.IsInt64():
		return sum.Int64()
	case sum.Sign() < 0:
		return least
	}
	return most
}

// hasGrow asks for spans that begin earlier, and end later: each that isn't empty by itself, on the scale of their new ends.
func hasGrow(t *testing.T, l []api.Span, ahead, behind int64) {
	t.Helper()
	var grown []api.Span
	e := scale{0, 1}
	for _, s := range l {
		if s.From < s.To {
			g := api.Span{From: moved(s.From, -max(ahead, 0)), To: moved(s.To, max(behind, 0))}
			grown = append(grown, g)
			e = append(e, g.From, g.To)
		}
	}
	slices.Sort(e)
	e = slices.Compact(e)
	in := e.pieces(grown)
	is(t, span.Grow(l, ahead, behind), e.runs(func(i int) bool { return in[i] }), "Grow", l, ahead, behind)
}

// row is spans by their ends.
func row(ends ...int64) []api.Span {
	var l []api.Span
	for i := 0; i < len(ends); i += 2 {
		l = append(l, api.Span{From: ends[i], To: ends[i+1]})
	}
	return l
}

// someRow is one of so many spans at most, with their ends on a scale.
func (e scale) someRow(random *rand.Rand, n int) []api.Span {
	var l []api.Span
	for range random.Intn(n + 1) {
		from := random.Intn(len(e))
		to := min(from+random.Intn(4), len(e)-1)
		if random.Intn(8) == 0 {
			to = random.Intn(len(e))
		}
		l = append(l, api.Span{From: e[from], To: e[to]})
	}
	if random.Intn(3) == 0 {
		slices.SortFunc(l, func(a, b api.Span) int { return cmp.Compare(a.From, b.From) })
	}
	return l
}

// someScale is one of so many numbers at most: next to each other, with gaps, or with the numbers' ends.
func someScale(random *rand.Rand, n int) scale {
	e := scale{random.Int63n(2000) - 1000}
	step := 1 + random.Int63n(3)*random.Int63n(1000)
	for range 1 + random.Intn(n) {
		e = append(e, e[len(e)-1]+1+random.Int63n(step))
	}
	if random.Intn(4) == 0 {
		e = append(append(scale{least, least + 1 + random.Int63n(2)}, e...), most-1-random.Int63n(2), most)
		e = slices.Compact(e)
	}
	return e
}

// TestP13_1_FormOfAllRows: of up to three spans, in any order.
func TestP13_1_FormOfAllRows(t *testing.T) {
	for _, e := range []scale{minutes, edges, wide} {
		for _, l := range rows(e.spans(), 3) {
			e.hasForm(t, l)
		}
	}
}

// TestP13_1_AllTwoRows: each two of up to two spans.
func TestP13_1_AllTwoRows(t *testing.T) {
	for _, e := range []scale{minutes[:5], edges[1:], {least, least + 1, 5, most}} {
		all := rows(e.spans(), 2)
		for _, a := range all {
			for _, b := range all {
				e.hasTwo(t, a, b)
			}
		}
	}
}

// TestP13_1_CutOfAllRows: by all windows, those without a minute, too.
func TestP13_1_CutOfAllRows(t *testing.T) {
	for _, e := range []scale{minutes, edges, wide} {
		for _, l := range rows(e.spans(), 2) {
			for _, window := range e.spans() {
				e.hasCut(t, l, window)
			}
		}
	}
}

// TestP13_1_GrowOfAllRows: by numbers at all edges, those below 0, too.
func TestP13_1_GrowOfAllRows(t *testing.T) {
	by := []int64{least, least + 1, -3, -1, 0, 1, 2, 3, 5, most - 2, most - 1, most}
	for _, e := range []scale{minutes, edges, wide} {
		for _, l := range rows(e.spans(), 2) {
			for _, ahead := range by {
				for _, behind := range by {
					hasGrow(t, l, ahead, behind)
				}
			}
		}
	}
}

// TestP13_1_LongRows: random ones, of few and of many minutes.
func TestP13_1_LongRows(t *testing.T) {
	random := rand.New(rand.NewSource(13))
	found := 0
	for range 20000 {
		e := someScale(random, 60)
		a, b := e.someRow(random, 25), e.someRow(random, 25)
		if random.Intn(2) == 0 {
			a = span.Form(a)
		}
		e.hasForm(t, a)
		e.hasTwo(t, a, b)
		e.hasTwo(t, b, a)
		hasGrow(t, a, random.Int63n(12)-2, random.Int63n(12)-2)
		hasGrow(t, a, random.Int63n(3000)-200, random.Int63n(3000)-200)
		e.hasCut(t, a, api.Span{From: e[random.Intn(len(e))], To: e[random.Intn(len(e))]})
		found += len(span.Minus(a, b))
	}
	if found < 40000 {
		t.Errorf("%d found", found)
	}
}

// TestP13_1_ManySpans: thousands of them, rising, falling, mixed, one within the other and one behind the other.
func TestP13_1_ManySpans(t *testing.T) {
	const n = 30000
	var apart, behind, within []api.Span
	for i := range int64(n) {
		apart = append(apart, api.Span{From: i * 3, To: i*3 + 2})
		behind = append(behind, api.Span{From: i, To: i + 1})
		within = append(within, api.Span{From: i, To: 3*n - i})
	}
	random := rand.New(rand.NewSource(7))
	for range 3 {
		is(t, span.Form(apart), sortedApart(n, 2), "apart")
		is(t, span.Form(behind), row(0, n), "behind")
		is(t, span.Form(within), row(0, 3*n), "within")
		is(t, span.Grow(apart, 0, 1), row(0, 3*n), "grown")
		is(t, span.Minus(within, apart), shifted(sortedApart(n, 1), 2), "minus")
		is(t, span.Meet(apart, within), sortedApart(n, 2), "meet")
		is(t, span.Union(apart, behind), append(row(0, n+2), shifted(sortedApart(n-n/3-1, 2), n+3)...), "union")
		for _, l := range [][]api.Span{apart, behind, within} {
			random.Shuffle(n, func(i, j int) { l[i], l[j] = l[j], l[i] })
		}
	}
	if span.Minutes(apart) != 2*n || span.Minutes(behind) != n || span.Minutes(within) != 3*n || span.May(apart) || !span.May(span.Form(apart)) {
		t.Error("minutes")
	}
}

// sortedApart are n spans of so many minutes, one each three minutes.
func sortedApart(n, long int64) []api.Span {
	var l []api.Span
	for i := range n {
		l = append(l, api.Span{From: i * 3, To: i*3 + long})
	}
	return l
}

// shifted are spans so many minutes later.
func shifted(l []api.Span, by int64) []api.Span {
	var out []api.Span
	for _, s := range l {
		out = append(out, api.Span{From: s.From + by, To: s.To + by})
	}
	return out
}

// TestP13_1_ByHand: what the chapter says, written out.
func TestP13_1_ByHand(t *testing.T) {
	is(t, span.Form(row(1, 3, 3, 5)), row(1, 5), "the chapter's example")
	is(t, span.Form(row(3, 5, 1, 3)), row(1, 5), "the chapter's example, turned round")
	is(t, span.Form(row(1, 3, 4, 5)), row(1, 3, 4, 5), "a minute between")
	is(t, span.Form(row(9, 9, 8, 2, 4, 5, 1, 9, 2, 3)), row(1, 9), "within")
	is(t, span.Form(row(5, 5, 6, 4)), nil, "empty ones")
	is(t, span.Union(row(1, 3), row(3, 5)), row(1, 5), "Union")
	is(t, span.Union(row(7, 8, 1, 2), row(4, 5)), row(1, 2, 4, 5, 7, 8), "Union")
	is(t, span.Meet(row(1, 5), row(0, 2, 3, 4, 4, 9)), row(1, 2, 3, 5), "Meet")
	is(t, span.Meet(row(1, 5), row(5, 9)), nil, "Meet")
	is(t, span.Minus(row(1, 9), row(3, 4, 0, 2, 8, 20)), row(2, 3, 4, 8), "Minus")
	is(t, span.Minus(row(1, 9, 20, 30), nil), row(1, 9, 20, 30), "Minus")
	is(t, span.Minus(nil, row(1, 9)), nil, "Minus")
	is(t, span.Minus(row(least, most), row(-1, 1)), row(least, -1, 1, most), "Minus")
	is(t, span.Minus(row(least, most), row(least, most)), nil, "Minus")
	is(t, span.Grow(row(10, 20), 3, 4), row(7, 24), "Grow")
	is(t, span.Grow(row(10, 20, 30, 40), 5, 5), row(5, 45), "Grow")
	is(t, span.Grow(row(10, 20, 30, 40), 5, 4), row(5, 24, 25, 44), "Grow")
	is(t, span.Grow(row(10, 20), -3, -4), row(10, 20), "Grow")
	is(t, span.Grow(row(10, 20), least, 1), row(10, 21), "Grow")
	is(t, span.Grow(row(10, 10, 30, 20), 100, 100), nil, "Grow: empty ones stay empty")
	is(t, span.Grow(row(0, 1), 1, 0), row(-1, 1), "Grow: minutes below 0 are minutes")
	is(t, span.Grow(row(0, 1), most, most), row(-most, most), "Grow")
	is(t, span.Grow(row(-2, 1), most, most), row(least, most), "Grow")
	is(t, span.Grow(row(least, least+1, most-1, most), 1, 1), row(least, least+2, most-2, most), "Grow")
	is(t, span.Cut(row(1, 5, 7, 9), api.Span{From: 4, To: 8}), row(4, 5, 7, 8), "Cut")
	is(t, span.Cut(row(1, 5), api.Span{From: 4, To: 2}), nil, "Cut")
	is(t, span.Cut(row(1, 5), api.Span{From: 5, To: 9}), nil, "Cut")
	for _, l := range [][]api.Span{nil, row(1, 2), row(1, 2, 3, 4), row(least, most), row(least, least+1, most-1, most)} {
		if !span.May(l) {
			t.Errorf("May(%v): false", l)
		}
	}
	for _, l := range [][]api.Span{row(1, 1), row(2, 1), row(1, 2, 2, 3), row(1, 3, 2, 4), row(3, 4, 1, 2), row(1, 2, 1, 2), row(1, 9, 2, 3), row(1, 2, 5, 5), row(1, 2, 4, 5, 9, 8), row(most, least)} {
		if span.May(l) {
			t.Errorf("May(%v): true", l)
		}
	}
}

// TestP13_1_MinutesByHand: more of them than an int64 tells.
func TestP13_1_MinutesByHand(t *testing.T) {
	for _, x := range []struct {
		l []api.Span
		n uint64
	}{
		{nil, 0}, {row(5, 5), 0}, {row(most, least), 0}, {row(1, 2), 1}, {row(1, 5, 2, 9), 8}, {row(4, 9, 1, 2, 1, 2), 6}, {row(-5, 5), 10},
		{row(least, 0), 1 << 63}, {row(least, 1), 1<<63 + 1}, {row(0, most), most}, {row(least, most), math.MaxUint64}, {row(least, 0, 1, most), math.MaxUint64 - 1},
		{row(least, most, least, most, 0, 5), math.MaxUint64}, {row(0, api.Minutes), api.Minutes},
	} {
		if n := span.Minutes(x.l); n != x.n {
			t.Errorf("Minutes(%v): %d, not %d", x.l, n, x.n)
		}
	}
}

// TestP13_1_HasByHand: a span has the minute that it begins with, but not the one that it ends at.
func TestP13_1_HasByHand(t *testing.T) {
	l := row(20, 22, 5, 6, 9, 8, 7, 7, least, least+1, most-1, most)
	for _, minute := range []int64{20, 21, 5, least, most - 1} {
		if !span.Has(l, minute) {
			t.Errorf("Has(%d): false", minute)
		}
	}
	for _, minute := range []int64{19, 22, 4, 6, 7, 8, 9, least + 1, most, most - 2, 0} {
		if span.Has(l, minute) {
			t.Errorf("Has(%d): true", minute)
		}
	}
	if span.Has(nil, 0) || span.Has(row(0, 0), 0) || span.Has(row(1, -1), 0) {
		t.Error("a minute of a row that has none")
	}
}

// answers are what the calls that tell a row tell of two.
func answers(a, b []api.Span, window api.Span, ahead, behind int64) [][]api.Span {
	return [][]api.Span{span.Form(a), span.Union(a, b), span.Meet(a, b), span.Minus(a, b), span.Grow(a, ahead, behind), span.Cut(a, window)}
}

// withRoom is a copy of a row with room behind it, in which other spans lie.
func withRoom(l []api.Span) []api.Span {
	all := append(slices.Clone(l), row(-7, 7, 3, 4, 100, 200)...)
	return all[:len(l)]
}

// TestP13_1_NothingChangedOrKept: R3 of the document.
func TestP13_1_NothingChangedOrKept(t *testing.T) {
	random := rand.New(rand.NewSource(3))
	junk := api.Span{From: -77, To: -70}
	for range 3000 {
		e := someScale(random, 20)
		a, b := e.someRow(random, 9), e.someRow(random, 9)
		switch random.Intn(4) {
		case 0: // in their form, and one of them alone
			a, b = span.Form(a), nil
		case 1:
			a, b = nil, span.Form(b)
		case 2:
			a, b = span.Form(a), span.Form(b)
		}
		window := api.Span{From: e[0], To: e[random.Intn(len(e))]}
		ahead, behind := random.Int63n(3), random.Int63n(3)
		want := answers(a, b, window, ahead, behind)
		givenA, givenB := withRoom(a), withRoom(b)
		got := answers(givenA, givenB, window, ahead, behind)
		span.May(givenA)
		span.Has(givenA, 5)
		span.Minutes(givenA)
		if !slices.Equal(givenA[:cap(givenA)][:len(a)+3], append(slices.Clone(a), row(-7, 7, 3, 4, 100, 200)...)) || !slices.Equal(givenB[:cap(givenB)][:len(b)+3], append(slices.Clone(b), row(-7, 7, 3, 4, 100, 200)...)) {
			t.Fatalf("%v, %v: changed to %v, %v", a, b, givenA, givenB)
		}
		for _, l := range [][]api.Span{givenA[:cap(givenA)], givenB[:cap(givenB)]} {
			for i := range l {
				l[i] = junk
			}
		}
		for i := range got {
			is(t, got[i], want[i], "once what was handed in was written into", i, a, b)
		}
		for i := range got {
			l := got[i][:cap(got[i])]
			for j := range l {
				l[j] = api.Span{From: 1, To: 2}
			}
			for j := range got[i+1:] {
				is(t, got[i+1+j], want[i+1+j], "once another answer was written into", i, a, b)
			}
		}
		if slices.ContainsFunc(append(givenA[:cap(givenA)], givenB[:cap(givenB)]...), func(s api.Span) bool { return s != junk }) {
			t.Fatalf("%v, %v: what was answered is what was handed in", a, b)
		}
	}
}

// TestP13_1_OneRowTwice: the same memory may be handed in as both rows, or one of them as a piece of the other.
func TestP13_1_OneRowTwice(t *testing.T) {
	random := rand.New(rand.NewSource(4))
	for range 3000 {
		e := someScale(random, 20)
		l := e.someRow(random, 9)
		e.hasTwo(t, l, l)
		n := random.Intn(len(l) + 1)
		e.hasTwo(t, l[:n], l)
		e.hasTwo(t, l[:n], l[n:])
		e.hasTwo(t, l, l[n:])
	}
}

// TestP13_1_NilAsEmpty: R4 of the document.
func TestP13_1_NilAsEmpty(t *testing.T) {
	window := api.Span{From: least, To: most}
	l := row(5, 9, 1, 2)
	for _, none := range [][]api.Span{nil, {}, make([]api.Span, 0, 9), row(5, 5), row(6, 5)} {
		for i, got := range answers(none, none, window, 5, 5) {
			is(t, got, nil, i)
		}
		is(t, span.Union(none, l), row(1, 2, 5, 9), "Union")
		is(t, span.Union(l, none), row(1, 2, 5, 9), "Union")
		is(t, span.Minus(l, none), row(1, 2, 5, 9), "Minus")
		is(t, span.Minus(none, l), nil, "Minus")
		is(t, span.Meet(l, none), nil, "Meet")
		is(t, span.Meet(none, l), nil, "Meet")
		if span.Has(none, 5) || span.Minutes(none) != 0 || span.May(none) != (len(none) == 0) {
			t.Errorf("%v", none)
		}
	}
}

// TestP13_1_SameAnswers: R5 of the document, with calls beside each other.
func TestP13_1_SameAnswers(t *testing.T) {
	random := rand.New(rand.NewSource(5))
	for range 200 {
		e := someScale(random, 40)
		a, b := e.someRow(random, 30), e.someRow(random, 30)
		window := api.Span{From: e[0], To: e[len(e)-1]}
		want, n, may := answers(a, b, window, 3, 4), span.Minutes(a), span.May(a)
		var all sync.WaitGroup
		for range 8 {
			all.Go(func() {
				for i, got := range answers(a, b, window, 3, 4) {
					if !slices.Equal(got, want[i]) {
						t.Errorf("%v, %v: %d others beside each other", a, b, i)
					}
				}
				if span.Minutes(a) != n || span.May(a) != may {
					t.Errorf("%v: others beside each other", a)
				}
			})
		}
		all.Wait()
	}
}
