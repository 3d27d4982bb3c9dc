package clock_test

import (
	"fmt"
	"math"
	"math/rand"
	"regexp"
	"strings"
	"testing"
	"time"
	"unicode/utf8"

	"vespers/api"
	"vespers/clock"
)

// The tests hold the calls against texts that the library writes: fmt, time and regexp.

// extremes are numbers that no call may stumble over.
var extremes = []int64{math.MinInt64, math.MinInt64 + 1, math.MinInt32, -api.Minutes, -1440, -128, -1, api.Minutes + 1, api.Minutes + 1440, math.MaxInt32 - 1, math.MaxInt64 - 1, math.MaxInt64}

// wrongTexts are texts of nothing, for all calls that read.
func wrongTexts() []string {
	return []string{
		"", " ", ":", "-:-", "T", ",", "--", "\x00", "\xff", "é", "€", "::", "-T:", "----", "TT",
		strings.Repeat("0", 1<<20), strings.Repeat(":", 1<<20), strings.Repeat("-", 1<<20), strings.Repeat("mo,", 1<<20), strings.Repeat("T", 1<<20), strings.Repeat("é", 1<<20),
	}
}

// near are all texts that come of one by another byte in one place, by one byte more, by one byte less, and by two bytes in each other's place.
func near(s string) []string {
	var l []string
	for i := 0; i <= len(s); i++ {
		for b := range 256 {
			l = append(l, s[:i]+string([]byte{byte(b)})+s[i:])
			if i < len(s) {
				l = append(l, s[:i]+string([]byte{byte(b)})+s[i+1:])
			}
		}
		if i < len(s) {
			l = append(l, s[:i]+s[i+1:])
		}
		if i+1 < len(s) {
			l = append(l, s[:i]+s[i+1:i+2]+s[i:i+1]+s[i+2:])
		}
	}
	return append(l, s+s, s+"\n", "\n"+s, s+"Z", strings.ToUpper(s), strings.ToLower(s))
}

// numbersOf are all minutes of the day, by their texts.
func numbersOf() map[string]int {
	m := map[string]int{"24:00": 1440}
	for n := range 1440 {
		m[fmt.Sprintf("%02d:%02d", n/60, n%60)] = n
	}
	return m
}

func checkReadMinute(t *testing.T, s string, want int, is bool) {
	t.Helper()
	if n, ok := clock.ReadMinute(s); n != want || ok != is {
		t.Fatalf("ReadMinute(%.40q): %d, %v, not %d, %v", s, n, ok, want, is)
	}
}

func TestP3_1_Minute(t *testing.T) {
	for s, n := range numbersOf() {
		if got, ok := clock.Minute(n); got != s || !ok {
			t.Errorf("Minute(%d): %q, %v, not %q", n, got, ok, s)
		}
	}
	for _, n := range append([]int64{1441, 1442, 1499, 1500, 2880}, extremes...) {
		if s, ok := clock.Minute(int(n)); s != "" || ok {
			t.Errorf("Minute(%d): %q, %v", n, s, ok)
		}
	}
}

func TestP3_1_ReadMinute(t *testing.T) {
	numbers := numbersOf()
	check := func(s string) {
		t.Helper()
		n, is := numbers[s]
		checkReadMinute(t, s, n, is)
	}
	for h := range 100 {
		for m := range 100 {
			check(fmt.Sprintf("%02d:%02d", h, m))
			check(fmt.Sprintf("%d:%d", h, m))
			check(fmt.Sprintf("%02d%02d", h, m))
			check(fmt.Sprintf("%03d:%02d", h, m))
		}
	}
	for s := range numbers {
		for _, x := range near(s) {
			check(x)
		}
	}
	for _, s := range append(wrongTexts(), "-1:00", "+1:00", "00:-1", "00:+1", " 1:00", "00: 1", "24:01", "23:60", "24:60", "12:30:00", "0x:00", "٠٠:٠٠", "12：30") {
		checkReadMinute(t, s, 0, false)
	}
}

var epoch = time.Date(1900, time.January, 1, 0, 0, 0, 0, time.UTC)

// stampText is what the library's clock says of a minute that is a stamp.
func stampText(n int64) string {
	if n == api.Minutes {
		return "2200-12-31T24:00"
	}
	return epoch.AddDate(0, 0, int(n/1440)).Add(time.Duration(n%1440) * time.Minute).Format("2006-01-02T15:04")
}

// stampOf is what the library reads, if it writes that just so.
func stampOf(s string) (int64, bool) {
	if s == "2200-12-31T24:00" {
		return api.Minutes, true
	}
	at, err := time.Parse("2006-01-02T15:04", s)
	if err != nil || at.Format("2006-01-02T15:04") != s || at.Year() < 1900 || at.Year() > 2200 {
		return 0, false
	}
	return (at.Unix() - epoch.Unix()) / 60, true
}

func checkReadStamp(t *testing.T, s string) {
	t.Helper()
	want, is := stampOf(s)
	if n, ok := clock.ReadStamp(s); n != want || ok != is {
		t.Fatalf("ReadStamp(%.40q): %d, %v, not %d, %v", s, n, ok, want, is)
	}
}

// stamps are minutes of all days, and all minutes of some.
func stamps() []int64 {
	l := []int64{api.Minutes}
	for day := range int64(api.Days) {
		l = append(l, day*1440, day*1440+day%1440, day*1440+1439)
	}
	for _, day := range []int64{0, 58, 59, 36583, api.Days - 1} {
		for n := range int64(1440) {
			l = append(l, day*1440+n)
		}
	}
	return l
}

func TestP3_1_Stamp(t *testing.T) {
	for _, n := range stamps() {
		if s, ok := clock.Stamp(n); s != stampText(n) || !ok {
			t.Fatalf("Stamp(%d): %q, %v, not %q", n, s, ok, stampText(n))
		}
	}
	for _, n := range extremes {
		if s, ok := clock.Stamp(n); s != "" || ok {
			t.Errorf("Stamp(%d): %q, %v", n, s, ok)
		}
	}
}

func TestP3_1_ReadStamp(t *testing.T) {
	read := 0
	for year := 1890; year <= 2210; year++ {
		for month := range 15 {
			for day := range 34 {
				date := fmt.Sprintf("%04d-%02d-%02d", year, month, day)
				checkReadStamp(t, date+"T00:00")
				checkReadStamp(t, date+"T23:59")
				checkReadStamp(t, date+"T24:00")
				checkReadStamp(t, date)
				if _, ok := clock.ReadStamp(date + "T12:00"); ok {
					read++
				}
			}
		}
	}
	if read != api.Days {
		t.Errorf("%d dates are read", read)
	}
	for h := range 100 {
		for m := range 100 {
			checkReadStamp(t, fmt.Sprintf("2000-02-29T%02d:%02d", h, m))
			checkReadStamp(t, fmt.Sprintf("2200-12-31T%02d:%02d", h, m))
			checkReadStamp(t, fmt.Sprintf("2000-02-29T%d:%d", h, m))
		}
	}
}

func TestP3_1_ReadStampOfNone(t *testing.T) {
	for _, n := range []int64{0, 1439, 36583*1440 + 754, 100 * 365 * 1440, api.Minutes - 1440, api.Minutes - 1, api.Minutes} {
		for _, s := range near(stampText(n)) {
			checkReadStamp(t, s)
		}
	}
	none := []string{
		"2000-02-29", "T00:00", "2000-02-29T", "2000-02-29T00:00T00:00", "2000-02-29TT00:00", "2000-02-29t00:00", "2000-02-29 00:00",
		"20000229T00:00", "2000-0229T00:00", "200002-29T00:00", "2000-02-29-T00:00", "2000--02-29T00:00", "02000-02-29T00:00", "2000-2-29T00:00",
		"2000-2-029T00:00", "2000-002-9T00:00", "+200-02-28T00:00", "-200-02-28T00:00", "2000-+2-28T00:00", "2000-02-+1T00:00", "2000-02--1T00:00",
		"2000-02-29T00:00:00", "2000-02-29T00:00Z", "2000-02-28T24:00", "2200-12-30T24:00", "1900-01-01T24:00", "2200-12-31T24:01", "1899-12-31T24:00",
		"2201-01-01T00:00", "1899-12-31T23:59", "0000-00-00T00:00", "9999-12-31T23:59", "1900-02-29T00:00", "2200-02-29T00:00", "2000-13-01T00:00",
	}
	for _, s := range append(wrongTexts(), none...) {
		if n, ok := clock.ReadStamp(s); n != 0 || ok {
			t.Errorf("ReadStamp(%.40q): %d, %v", s, n, ok)
		}
	}
}

func TestP3_1_ExampleOfTheChapter(t *testing.T) {
	if s, ok := clock.Stamp(0); s != "1900-01-01T00:00" || !ok {
		t.Errorf("Stamp(0): %q, %v", s, ok)
	}
	if s, ok := clock.Stamp(api.Minutes); s != "2200-12-31T24:00" || !ok {
		t.Errorf("Stamp(Minutes): %q, %v", s, ok)
	}
	if s, ok := clock.Minute(1440); s != "24:00" || !ok {
		t.Errorf("Minute(1440): %q, %v", s, ok)
	}
}

// setsOf are all sets of weekdays, by their texts.
func setsOf() map[string]int {
	m := map[string]int{"-": 0}
	for set := 1; set < 128; set++ {
		var names []string
		for i, name := range []string{"mo", "tu", "we", "th", "fr", "sa", "su"} {
			if set&(1<<i) != 0 {
				names = append(names, name)
			}
		}
		m[strings.Join(names, ",")] = set
	}
	return m
}

func TestP3_1_Weekdays(t *testing.T) {
	sets := setsOf()
	if len(sets) != 128 {
		t.Fatalf("%d sets", len(sets))
	}
	for s, set := range sets {
		if got, ok := clock.Weekdays(set); got != s || !ok {
			t.Errorf("Weekdays(%d): %q, %v, not %q", set, got, ok, s)
		}
	}
	for _, set := range append([]int64{128, 129, 255, 256, 1 << 32, -127, -2}, extremes...) {
		if s, ok := clock.Weekdays(int(set)); s != "" || ok {
			t.Errorf("Weekdays(%d): %q, %v", set, s, ok)
		}
	}
	for s, want := range map[string]int{"mo": 1, "su": 64, "mo,su": 65, "tu,th,sa": 42, "-": 0, "mo,tu,we,th,fr,sa,su": 127} {
		if set, ok := clock.ReadWeekdays(s); set != want || !ok {
			t.Errorf("ReadWeekdays(%q): %d, %v, not %d", s, set, ok, want)
		}
	}
}

func TestP3_1_ReadWeekdays(t *testing.T) {
	sets := setsOf()
	check := func(s string) {
		t.Helper()
		want, is := sets[s]
		if set, ok := clock.ReadWeekdays(s); set != want || ok != is {
			t.Fatalf("ReadWeekdays(%.40q): %d, %v, not %d, %v", s, set, ok, want, is)
		}
	}
	for s := range sets {
		for _, x := range near(s) {
			check(x)
		}
	}
	// All rows of up to four names, in any order, also of such as are none.
	names := []string{"mo", "tu", "we", "th", "fr", "sa", "su", "-", "", "xx", "Mo", " mo"}
	rows := []string{""}
	for range 4 {
		var longer []string
		for _, row := range rows {
			for _, name := range names {
				check(row + name)
				check(row + name + ",")
				longer = append(longer, row+name+",", row+name)
			}
		}
		rows = longer
	}
	for _, s := range append(wrongTexts(), "motu", "mo;tu", "mo tu", "mo, tu", "mo,,tu", ",mo", "monday", "otu", "0", "1", "mo,tu,we,th,fr,sa,su,mo", "-mo", "mo-su", "--") {
		check(s)
		if _, ok := clock.ReadWeekdays(s); ok {
			t.Errorf("ReadWeekdays(%.40q): true", s)
		}
	}
}

// label is the chapter's words as a pattern; of a byte that isn't UTF-8 it takes none of its letters.
var label = regexp.MustCompile(`\A[a-zA-Z0-9\-\x{C0}-\x{24F}](?:[a-zA-Z0-9 \-\x{C0}-\x{24F}]{0,22}[a-zA-Z0-9\-\x{C0}-\x{24F}])?\z`)

func checkLabel(t *testing.T, s string) {
	t.Helper()
	if want := label.MatchString(s); clock.Label(s) != want {
		t.Fatalf("Label(%.80q): not %v", s, want)
	}
}

func TestP3_1_Label(t *testing.T) {
	for _, s := range []string{"a", "z", "A", "Z", "0", "9", "-", "--", "a b", "a  b", "À", "ɏ", "×", "÷", "Team sync", "Ångström-9", "-a-", strings.Repeat("z", 24), strings.Repeat("ɏ", 24), "a" + strings.Repeat(" ", 22) + "a"} {
		if !clock.Label(s) {
			t.Errorf("Label(%q): false", s)
		}
	}
	for _, s := range wrongTexts() {
		checkLabel(t, s)
	}
	for _, s := range []string{"", " ", "   ", " a", "a ", " a ", "a_b", "a\tb", "a\nb", "a\n", "\na", "a\x00", "a.b", "@", "[", "`", "{", "/", "a,b", "\u00bf", "\u0250", "a\u00a0b", "e\u0301", "\ufeffa", "\ufffd", "日", "😀", "ｍ", "a\u2010b",
		strings.Repeat("z", 25), strings.Repeat("é", 25), "a" + strings.Repeat(" ", 23) + "a", strings.Repeat("a", 1<<20)} {
		if clock.Label(s) {
			t.Errorf("Label(%.40q): true", s)
		}
	}
	for r := rune(0); r <= utf8.MaxRune; r++ {
		s := string(r)
		checkLabel(t, s)
		if r < 0x3000 {
			for _, x := range []string{"a" + s, s + "a", "a" + s + "a", strings.Repeat("é", 23) + s, strings.Repeat("é", 24) + s} {
				checkLabel(t, x)
			}
		}
	}
}

func TestP3_1_LabelLengths(t *testing.T) {
	for n := range 100 {
		for _, letter := range []string{"a", "-", "9", "À", "ɏ", "aé", "aɏ-"} {
			s := strings.Repeat(letter, n)
			long := utf8.RuneCountInString(s)
			if clock.Label(s) != (long >= 1 && long <= 24) {
				t.Errorf("Label(%q): not by its %d letters", s, long)
			}
			checkLabel(t, s+" ")
			checkLabel(t, " "+s)
			checkLabel(t, s+" "+letter)
		}
	}
}

// brokenTexts are such as aren't UTF-8: bytes alone, letters cut off, written longer than needed, halves of pairs, beyond the last one.
func brokenTexts() []string {
	l := []string{"\xc3", "\xa9", "\xc9\x8f\x8f", "\xc1\x81", "\xc0\x80", "\xc1\xa1", "\xe0\x83\x80", "\xe0\x82\xac", "\xf0\x80\x83\x80", "\xed\xa0\x80", "\xed\xbf\xbf", "\xf4\x90\x80\x80", "\xf5\x80\x80\x80", "\xfe", "\xff", "\xe2\x82", "\xf0\x9f\x98", "\xf8\x88\x80\x80\x80"}
	for b := 0x80; b < 0x100; b++ {
		l = append(l, string([]byte{byte(b)}))
	}
	return l
}

func TestP3_1_LabelOfBrokenTexts(t *testing.T) {
	for _, s := range brokenTexts() {
		for _, x := range []string{s, "a" + s, s + "a", "a" + s + "b", "é" + s, s + "é", s + s} {
			// Two halves may make a letter: that one isn't broken.
			if clock.Label(x) && !utf8.ValidString(x) {
				t.Errorf("Label(%q): true", x)
			}
			checkLabel(t, x)
		}
	}
}

// widthByWords takes off, again and again, a letter from the front, or else a byte.
func widthByWords(s string) int {
	n := 0
	for len(s) > 0 {
		long := 1
		for l := 1; l <= 4 && l <= len(s); l++ {
			if utf8.ValidString(s[:l]) {
				long = l
				break
			}
		}
		s = s[long:]
		n++
	}
	return n
}

func TestP3_1_Width(t *testing.T) {
	for s, want := range map[string]int{
		"": 0, "a": 1, "abc": 3, "é": 1, "aé€\xff": 4, "😀": 1, "e\u0301": 2, "\ufffd": 1, "\x00": 1, "\r\n": 2, "  ": 2,
		"\xff\xff": 2, "\xc3": 1, "\xc3é": 2, "\xe2\x82": 2, "\xe2\x82a": 3, "\xe2\x82\xac": 1, "\xf0\x9f\x98": 3, "\xc0\x80": 2,
		"\xed\xa0\x80": 3, "\xf4\x90\x80\x80": 4, "\xf4\x8f\xbf\xbf": 1, "\xe0\x80\x80": 3, "\xa9é\xa9": 3,
		strings.Repeat("é", 1<<20): 1 << 20, strings.Repeat("\xff", 1<<20): 1 << 20, strings.Repeat("\xe2\x82", 1<<18): 1 << 19,
	} {
		if got := clock.Width(s); got != want {
			t.Errorf("Width(%.40q): %d, not %d", s, got, want)
		}
	}
	for r := rune(0); r <= utf8.MaxRune; r++ {
		if got := clock.Width(string(r)); got != 1 {
			t.Fatalf("Width(%q): %d", string(r), got)
		}
	}
	for _, s := range brokenTexts() {
		for _, x := range []string{s, "a" + s, s + "a", "é" + s + "€", s + s} {
			if got := clock.Width(x); got != widthByWords(x) {
				t.Errorf("Width(%q): %d, not %d", x, got, widthByWords(x))
			}
		}
	}
}

func TestP3_1_WidthOfRandomBytes(t *testing.T) {
	r := rand.New(rand.NewSource(3))
	heavy := []byte{0x20, 0x41, 0x7f, 0x80, 0x82, 0x90, 0x9f, 0xa0, 0xac, 0xbf, 0xc0, 0xc2, 0xc3, 0xdf, 0xe0, 0xe2, 0xed, 0xef, 0xf0, 0xf3, 0xf4, 0xf5, 0xff}
	for range 200000 {
		b := make([]byte, r.Intn(12))
		for i := range b {
			b[i] = heavy[r.Intn(len(heavy))]
		}
		s := string(b)
		if got := clock.Width(s); got != widthByWords(s) {
			t.Fatalf("Width(%q): %d, not %d", s, got, widthByWords(s))
		}
		checkLabel(t, s)
	}
}

func TestP3_2_MinutesThereAndBack(t *testing.T) {
	texts := map[string]int{}
	for n := 0; n <= 1440; n++ {
		s, ok := clock.Minute(n)
		if back, is := clock.ReadMinute(s); !ok || !is || back != n {
			t.Errorf("%d: %q, %v; back %d, %v", n, s, ok, back, is)
		}
		texts[s]++
	}
	if len(texts) != 1441 {
		t.Errorf("%d texts", len(texts))
	}
	for s := range numbersOf() {
		n, ok := clock.ReadMinute(s)
		if back, is := clock.Minute(n); !ok || !is || back != s {
			t.Errorf("%q: %d, %v; back %q, %v", s, n, ok, back, is)
		}
	}
}

func TestP3_2_StampsThereAndBack(t *testing.T) {
	for _, n := range stamps() {
		s, ok := clock.Stamp(n)
		if back, is := clock.ReadStamp(s); !ok || !is || back != n {
			t.Fatalf("%d: %q, %v; back %d, %v", n, s, ok, back, is)
		}
	}
	r := rand.New(rand.NewSource(4))
	for range 200000 {
		s := stampText(r.Int63n(api.Minutes + 1))
		n, ok := clock.ReadStamp(s)
		if back, is := clock.Stamp(n); !ok || !is || back != s {
			t.Fatalf("%q: %d, %v; back %q, %v", s, n, ok, back, is)
		}
	}
}

func TestP3_2_WeekdaysThereAndBack(t *testing.T) {
	for set := range 128 {
		s, ok := clock.Weekdays(set)
		if back, is := clock.ReadWeekdays(s); !ok || !is || back != set {
			t.Errorf("%d: %q, %v; back %d, %v", set, s, ok, back, is)
		}
	}
	for s := range setsOf() {
		set, ok := clock.ReadWeekdays(s)
		if back, is := clock.Weekdays(set); !ok || !is || back != s {
			t.Errorf("%q: %d, %v; back %q, %v", s, set, ok, back, is)
		}
	}
}
