package civil_test

import (
	"math"
	"math/big"
	"math/rand"
	"testing"
	"time"

	"vespers/api"
	"vespers/civil"
)

// The tests hold the calls against the calendar of the library's time, and sums against math/big.

// extremes are ints that no call may stumble over.
var extremes = []int{math.MinInt, math.MinInt + 1, math.MinInt32, -1 << 20, -400, -100, -7, -1, 0, 1, 7, 366, 1 << 20, math.MaxInt32, math.MaxInt - 1, math.MaxInt}

var epoch = time.Date(1900, time.January, 1, 0, 0, 0, 0, time.UTC)

// realDate is what the library's calendar says of a day counted from the first of January 1900 on.
func realDate(n int) api.Date {
	t := epoch.AddDate(0, 0, n)
	return api.Date{Year: t.Year(), Month: int(t.Month()), Day: t.Day()}
}

// mondayFirst turns the library's weekdays, which begin on Sunday.
func mondayFirst(w time.Weekday) int { return (int(w) + 6) % 7 }

// exists tells whether the library's calendar has the date, between the first and the last year.
func exists(d api.Date) bool {
	if d.Year < 1900 || d.Year > 2200 || d.Month < 1 || d.Month > 12 {
		return false
	}
	t := time.Date(d.Year, time.Month(d.Month), d.Day, 0, 0, 0, 0, time.UTC)
	return t.Year() == d.Year && int(t.Month()) == d.Month && t.Day() == d.Day
}

func checkWrongDate(t *testing.T, d api.Date) {
	t.Helper()
	if civil.May(d) {
		t.Errorf("May(%v): true", d)
	}
	if n, ok := civil.Number(d); n != 0 || ok {
		t.Errorf("Number(%v): %d, %v", d, n, ok)
	}
	if n := civil.Ordinal(d); n != 0 {
		t.Errorf("Ordinal(%v): %d", d, n)
	}
}

func TestP1_1_Leap(t *testing.T) {
	for year := -2500; year <= 4500; year++ {
		want := time.Date(year, time.February, 29, 0, 0, 0, 0, time.UTC).Day() == 29
		if civil.Leap(year) != want {
			t.Errorf("Leap(%d): not %v", year, want)
		}
	}
	for _, x := range []struct {
		year int
		want bool
	}{
		{1900, false}, {1904, true}, {2000, true}, {2100, false}, {2200, false}, {2023, false}, {2024, true},
		{0, true}, {-1, false}, {-4, true}, {-100, false}, {-400, true},
		{math.MaxInt, false}, {math.MinInt, true}, {math.MinInt + 1, false},
	} {
		if civil.Leap(x.year) != x.want {
			t.Errorf("Leap(%d): not %v", x.year, x.want)
		}
	}
}

func TestP1_1_Length(t *testing.T) {
	for year := -900; year <= 3300; year++ {
		for month := -13; month <= 26; month++ {
			want := 0
			if month >= 1 && month <= 12 {
				want = time.Date(year, time.Month(month)+1, 0, 0, 0, 0, 0, time.UTC).Day()
			}
			if got := civil.Length(year, month); got != want {
				t.Fatalf("Length(%d, %d): %d, not %d", year, month, got, want)
			}
		}
	}
	for _, year := range extremes {
		february := 28
		if civil.Leap(year) {
			february = 29
		}
		if civil.Length(year, 1) != 31 || civil.Length(year, 2) != february || civil.Length(year, 11) != 30 {
			t.Errorf("Length of months of %d", year)
		}
		for _, month := range extremes {
			if (month < 1 || month > 12) && civil.Length(year, month) != 0 {
				t.Errorf("Length(%d, %d): %d", year, month, civil.Length(year, month))
			}
		}
	}
}

func TestP1_1_Dates(t *testing.T) {
	next := 0
	for year := 1895; year <= 2205; year++ {
		for month := -1; month <= 14; month++ {
			for day := -2; day <= 34; day++ {
				d := api.Date{Year: year, Month: month, Day: day}
				if !exists(d) {
					checkWrongDate(t, d)
					continue
				}
				if !civil.May(d) {
					t.Fatalf("May(%v): false", d)
				}
				if n, ok := civil.Number(d); n != next || !ok {
					t.Fatalf("Number(%v): %d, %v, not %d", d, n, ok, next)
				}
				yearDay := time.Date(year, time.Month(month), day, 0, 0, 0, 0, time.UTC).YearDay()
				if n := civil.Ordinal(d); n != yearDay {
					t.Fatalf("Ordinal(%v): %d, not %d", d, n, yearDay)
				}
				next++
			}
		}
	}
	if next != api.Days {
		t.Errorf("%d dates", next)
	}
}

func TestP1_1_WrongDates(t *testing.T) {
	for _, d := range []api.Date{
		{}, {Year: 1899, Month: 12, Day: 31}, {Year: 2201, Month: 1, Day: 1}, {Year: 1900, Month: 2, Day: 29},
		{Year: 2200, Month: 2, Day: 29}, {Year: 2023, Month: 2, Day: 29}, {Year: 2024, Month: 2, Day: 30}, {Year: 2026, Month: 6, Day: 31},
		{Year: 2026, Month: 0, Day: 1}, {Year: 2026, Month: 13, Day: 1}, {Year: 2026, Month: 1, Day: 0}, {Year: 2026, Month: 1, Day: 32},
		{Year: 2026, Month: 13, Day: 0}, {Year: 2026, Month: -1, Day: -1}, {Year: -2026, Month: 1, Day: 1},
	} {
		checkWrongDate(t, d)
	}
	for _, x := range extremes {
		checkWrongDate(t, api.Date{Year: x, Month: 1, Day: 1})
		checkWrongDate(t, api.Date{Year: x, Month: x, Day: x})
		if x < 1 || x > 12 {
			checkWrongDate(t, api.Date{Year: 2026, Month: x, Day: 1})
		}
		if x < 1 || x > 31 {
			checkWrongDate(t, api.Date{Year: 2026, Month: 1, Day: x})
		}
	}
}

func TestP1_1_Date(t *testing.T) {
	for n := -1000; n <= api.Days+1000; n++ {
		d, ok := civil.Date(n)
		if n < 0 || n >= api.Days {
			if ok || d != (api.Date{}) {
				t.Fatalf("Date(%d): %v, %v", n, d, ok)
			}
			continue
		}
		if want := realDate(n); d != want || !ok {
			t.Fatalf("Date(%d): %v, %v, not %v", n, d, ok, want)
		}
	}
	for _, n := range extremes {
		if d, ok := civil.Date(n); (n < 0 || n >= api.Days) && (ok || d != (api.Date{})) {
			t.Errorf("Date(%d): %v, %v", n, d, ok)
		}
	}
}

func TestP1_1_Weekday(t *testing.T) {
	for n := -20000; n <= api.Days+20000; n++ {
		want := mondayFirst(epoch.AddDate(0, 0, n).Weekday())
		if got := civil.Weekday(n); got != want {
			t.Fatalf("Weekday(%d): %d, not %d", n, got, want)
		}
	}
	for _, n := range extremes {
		// Mod of math/big is never below 0, and the day 0 is a Monday.
		want := int(new(big.Int).Mod(big.NewInt(int64(n)), big.NewInt(7)).Int64())
		if got := civil.Weekday(n); got != want {
			t.Errorf("Weekday(%d): %d, not %d", n, got, want)
		}
	}
}

func TestP1_1_ExampleOfTheChapter(t *testing.T) {
	d := api.Date{Year: 2000, Month: 2, Day: 29}
	if n, ok := civil.Number(d); n != 36583 || !ok {
		t.Errorf("Number(%v): %d, %v", d, n, ok)
	}
	if w := civil.Weekday(36583); w != 1 {
		t.Errorf("Weekday(36583): %d", w)
	}
	if back, ok := civil.Date(36583); back != d || !ok {
		t.Errorf("Date(36583): %v, %v", back, ok)
	}
	if n := civil.Ordinal(d); n != 60 {
		t.Errorf("Ordinal(%v): %d", d, n)
	}
}

// nthByList finds the n-th weekday of a month among all its days that are such, in order.
func nthByList(year, month, weekday, n int) (api.Date, bool) {
	var l []api.Date
	for day := 1; day <= 31; day++ {
		d := api.Date{Year: year, Month: month, Day: day}
		if exists(d) && mondayFirst(time.Date(year, time.Month(month), day, 0, 0, 0, 0, time.UTC).Weekday()) == weekday {
			l = append(l, d)
		}
	}
	switch {
	case n >= 1 && n <= len(l):
		return l[n-1], true
	case n <= -1 && n >= -len(l):
		return l[len(l)+n], true
	}
	return api.Date{}, false
}

func TestP1_1_Nth(t *testing.T) {
	for year := 1898; year <= 2202; year++ {
		for month := -1; month <= 14; month++ {
			for weekday := -2; weekday <= 8; weekday++ {
				for n := -7; n <= 7; n++ {
					want, is := nthByList(year, month, weekday, n)
					if got, ok := civil.Nth(year, month, weekday, n); got != want || ok != is {
						t.Fatalf("Nth(%d, %d, %d, %d): %v, %v, not %v, %v", year, month, weekday, n, got, ok, want, is)
					}
				}
			}
		}
	}
}

func TestP1_1_NthOfNone(t *testing.T) {
	none := func(year, month, weekday, n int) {
		t.Helper()
		if d, ok := civil.Nth(year, month, weekday, n); ok || d != (api.Date{}) {
			t.Errorf("Nth(%d, %d, %d, %d): %v, %v", year, month, weekday, n, d, ok)
		}
	}
	for _, x := range extremes {
		none(x, 11, 2, 1)
		none(x, x, x, x)
		if x < 1 || x > 12 {
			none(2026, x, 2, 1)
		}
		if x < 0 || x > 6 {
			none(2026, 11, x, 1)
			none(2026, 11, x, -1)
		}
		if x < -5 || x > 5 || x == 0 {
			none(2026, 11, 2, x)
		}
	}
	// Seven times such a number wraps round to a small one, which must not lead into the month.
	inverse := uint64(0x6db6db6db6db6db7)
	for small := -40; small <= 40; small++ {
		n := int(int64(inverse * uint64(int64(small))))
		for near := -2; near <= 2; near++ {
			if x := n + near; x < -5 || x > 5 {
				none(2026, 11, 2, x)
			}
		}
	}
}

// edges are int64s at which sums and products begin to wrap.
func edges() []int64 {
	l := []int64{0, 3037000498, 3037000499, 3037000500, 3037000501, 6074000999, 4611686018427387905, 3074457345618258602, 3074457345618258603, api.Minutes}
	for shift := 0; shift < 63; shift++ {
		l = append(l, 1<<shift-1, 1<<shift, 1<<shift+1)
	}
	for _, x := range l {
		l = append(l, -x)
	}
	return append(l, math.MaxInt64-1, math.MaxInt64, math.MinInt64, math.MinInt64+1, math.MaxInt64/2, math.MinInt64/3)
}

func checkSums(t *testing.T, a, b int64) {
	t.Helper()
	x, y := big.NewInt(a), big.NewInt(b)
	check := func(name string, whole *big.Int, got int64, ok bool) {
		t.Helper()
		want := int64(0)
		if whole.IsInt64() {
			want = whole.Int64()
		}
		if got != want || ok != whole.IsInt64() {
			t.Errorf("%s(%d, %d): %d, %v, not %v", name, a, b, got, ok, whole)
		}
	}
	sum, isSum := civil.Add(a, b)
	check("Add", new(big.Int).Add(x, y), sum, isSum)
	product, isProduct := civil.Mul(a, b)
	check("Mul", new(big.Int).Mul(x, y), product, isProduct)
}

func TestP1_1_Sums(t *testing.T) {
	l := edges()
	for _, a := range l {
		for _, b := range l {
			checkSums(t, a, b)
		}
	}
	chance := rand.New(rand.NewSource(1))
	for range 200000 {
		a := int64(chance.Uint64()) >> chance.Intn(64)
		b := int64(chance.Uint64()) >> chance.Intn(64)
		checkSums(t, a, b)
		if a == 0 {
			continue
		}
		// Beside the last factor that fits, and the first that doesn't.
		for near := int64(-1); near <= 1; near++ {
			checkSums(t, a, math.MaxInt64/a+near)
			checkSums(t, a, math.MinInt64/a+near)
			checkSums(t, math.MaxInt64-a+near, a)
			checkSums(t, math.MinInt64-a+near, a)
		}
	}
}

func TestP1_2_ThereAndBack(t *testing.T) {
	dates := 0
	for year := 1900; year <= 2200; year++ {
		for month := 1; month <= 12; month++ {
			for day := 1; day <= 31; day++ {
				d := api.Date{Year: year, Month: month, Day: day}
				if !exists(d) {
					continue
				}
				dates++
				n, ok := civil.Number(d)
				back, is := civil.Date(n)
				if !ok || !is || back != d {
					t.Fatalf("%v: number %d, %v; back %v, %v", d, n, ok, back, is)
				}
			}
		}
	}
	if dates != api.Days {
		t.Errorf("%d dates", dates)
	}
	// From the end on, so that nothing hangs on the order of calls.
	for n := api.Days - 1; n >= 0; n-- {
		d, ok := civil.Date(n)
		back, is := civil.Number(d)
		if !ok || !is || back != n {
			t.Fatalf("%d: date %v, %v; back %d, %v", n, d, ok, back, is)
		}
	}
}
