package pack_test

import (
	"bytes"
	"encoding/binary"
	"fmt"
	"math"
	"math/big"
	"math/rand"
	"strings"
	"testing"

	"vespers/pack"
)

// The tests hold the calls against the chapter's words, taken one by one: a number's bytes are told by parts through 128, and bytes are a number, if the sum of their parts is one whose bytes they are. Numbers are held against the library's bytes, too.

// numberByWords are a number's bytes, as the chapter tells them.
func numberByWords(n uint64) []byte {
	if n < 128 {
		return []byte{byte(n)}
	}
	return append([]byte{128 + byte(n%128)}, numberByWords(n/128)...)
}

// signedByWords is the number as which a signed one is written.
func signedByWords(n int64) uint64 {
	b := new(big.Int).Mul(big.NewInt(2), big.NewInt(n))
	if n < 0 {
		b.Neg(b)
		b.Sub(b, big.NewInt(1))
	}
	return b.Uint64()
}

// textByWords are a text's bytes.
func textByWords(s string) []byte { return append(numberByWords(uint64(len(s))), s...) }

// flagByWords is a flag's byte.
func flagByWords(is bool) []byte {
	if is {
		return []byte{1}
	}
	return []byte{0}
}

// numberAhead looks for a number whose bytes stand ahead in bytes: of each part of them the sum is taken, whatever number that comes to.
func numberAhead(b []byte) (uint64, int, bool) {
	sum, each := new(big.Int), big.NewInt(1)
	for k, c := range b[:min(len(b), 12)] {
		part := big.NewInt(int64(c % 128))
		sum.Add(sum, part.Mul(part, each))
		each.Mul(each, big.NewInt(128))
		if sum.IsUint64() && bytes.Equal(numberByWords(sum.Uint64()), b[:k+1]) {
			return sum.Uint64(), k + 1, true
		}
	}
	return 0, 0, false
}

// byWords is a reader as the chapter tells it.
type byWords struct {
	b   []byte
	bad bool
}

func (m *byWords) number(most uint64) uint64 {
	n, k, ok := numberAhead(m.b)
	if m.bad || !ok || n > most {
		m.bad = true
		return 0
	}
	m.b = m.b[k:]
	return n
}

func (m *byWords) signed() int64 {
	n := m.number(math.MaxUint64)
	if n%2 == 1 {
		return int64(^(n / 2))
	}
	return int64(n / 2)
}

func (m *byWords) text(most int) string {
	if most < 0 {
		most = 0
	}
	n := m.number(uint64(most))
	if m.bad || n > uint64(len(m.b)) {
		m.bad = true
		return ""
	}
	s := string(m.b[:n])
	m.b = m.b[n:]
	return s
}

func (m *byWords) flag() bool {
	if m.bad || len(m.b) == 0 || m.b[0] > 1 {
		m.bad = true
		return false
	}
	is := m.b[0] == 1
	m.b = m.b[1:]
	return is
}

func (m *byWords) end() bool { return !m.bad && len(m.b) == 0 }

// call is one call of a reader, and of what the chapter says of it; it tells both answers.
type call struct {
	name string
	do   func(*pack.Reader, *byWords) (got, want any)
}

func number(most uint64) call {
	return call{fmt.Sprintf("Number(%d)", most), func(r *pack.Reader, m *byWords) (any, any) { return r.Number(most), m.number(most) }}
}

func text(most int) call {
	return call{fmt.Sprintf("Text(%d)", most), func(r *pack.Reader, m *byWords) (any, any) { return r.Text(most), m.text(most) }}
}

func signed() call {
	return call{"Signed()", func(r *pack.Reader, m *byWords) (any, any) { return r.Signed(), m.signed() }}
}

func flag() call {
	return call{"Flag()", func(r *pack.Reader, m *byWords) (any, any) { return r.Flag(), m.flag() }}
}

func end() call {
	return call{"End()", func(r *pack.Reader, m *byWords) (any, any) { return r.End(), m.end() }}
}

func bad() call {
	return call{"Bad()", func(r *pack.Reader, m *byWords) (any, any) { return r.Bad(), m.bad }}
}

// calls are all calls, with mosts at their edges.
func calls() []call {
	l := []call{signed(), flag(), end(), bad()}
	for _, most := range []uint64{0, 1, 2, 127, 128, 130, math.MaxUint64} {
		l = append(l, number(most))
	}
	for _, most := range []int{math.MinInt, -1, 0, 1, 2, 3, math.MaxInt} {
		l = append(l, text(most))
	}
	return l
}

// isAsSaid asks for what the chapter says of each call of a row, on bytes.
func isAsSaid(t *testing.T, b []byte, row ...call) {
	t.Helper()
	r, m := pack.NewReader(b), &byWords{b: b}
	for i, c := range row {
		if got, want := c.do(r, m); got != want {
			var names []string
			for _, c := range row[:i+1] {
				names = append(names, c.name)
			}
			t.Fatalf("%v, %s: %v, not %v", b, strings.Join(names, ", "), got, want)
		}
	}
}

// rowsOfBytes hands out all rows of so many bytes out of some.
func rowsOfBytes(long int, of []byte, each func([]byte)) {
	var more func(b []byte)
	more = func(b []byte) {
		if len(b) == long {
			each(b)
			return
		}
		for _, c := range of {
			more(append(b, c))
		}
	}
	more(make([]byte, 0, long))
}

// allBytes are all there are.
func allBytes() []byte {
	var b []byte
	for c := range 256 {
		b = append(b, byte(c))
	}
	return b
}

// numbers are all up to some, those around each that has one bit, or all bits below one, and some of each length.
func numbers() []uint64 {
	var l []uint64
	for n := range uint64(1<<14 + 300) {
		l = append(l, n)
	}
	r := rand.New(rand.NewSource(8))
	for bit := range 64 {
		for d := range uint64(5) {
			l = append(l, 1<<bit+d-2)
		}
		for range 50 {
			l = append(l, r.Uint64()>>bit)
		}
	}
	return append(l, math.MaxUint64-1, math.MaxUint64, 0x0102030405060708, 1<<63|1<<56|1<<49|1<<42|1<<35|1<<28|1<<21|1<<14|1<<7|1)
}

// signedNumbers are those whose bits the numbers have, and these below 0.
func signedNumbers() []int64 {
	l := []int64{math.MinInt64, math.MinInt64 + 1, math.MaxInt64, math.MaxInt64 - 1, math.MinInt32, math.MaxInt32}
	for _, n := range numbers() {
		l = append(l, int64(n), -int64(n))
	}
	return l
}

// texts are of no bytes, of few, of lengths at which the number's bytes turn, and of bytes that are no letters, or look like what was written.
func texts() []string {
	l := []string{"", "a", "hé", "日本", "\x00", "\x00\x00", "\xff", "\x80\x80", "\xed\xa0\x80", "\x01", "\x03abc", "\x80\x00", "\xac\x02", strings.Repeat("\x80", 12)}
	for _, n := range []int{2, 126, 127, 128, 129, 255, 256, 300, 1<<14 - 1, 1 << 14, 1<<14 + 1, 1 << 16, 1 << 21} {
		b := make([]byte, n)
		rand.New(rand.NewSource(int64(n))).Read(b)
		l = append(l, string(b))
	}
	return l
}

// isWritten asks for the bytes of a new writer that was told one thing.
func isWritten(t *testing.T, name string, want []byte, tell func(*pack.Writer)) {
	t.Helper()
	w := pack.NewWriter()
	tell(w)
	if got := w.Bytes(); !bytes.Equal(got, want) {
		t.Fatalf("%s: %.60v, not %.60v", name, got, want)
	}
}

func TestP8_1_ExamplesOfTheChapter(t *testing.T) {
	isWritten(t, "300", []byte{172, 2}, func(w *pack.Writer) { w.Number(300) })
	r := pack.NewReader([]byte{172, 2})
	if n := r.Number(300); n != 300 || !r.End() || r.Bad() {
		t.Error(n)
	}
	r = pack.NewReader([]byte{128, 0})
	if n := r.Number(math.MaxUint64); n != 0 || r.End() || !r.Bad() {
		t.Error(n)
	}
}

// Bytes that are known, of all kinds of things, one behind the other.
func TestP8_1_KnownBytes(t *testing.T) {
	w := pack.NewWriter()
	w.Number(0)
	w.Number(127)
	w.Number(128)
	w.Number(math.MaxUint64)
	w.Signed(0)
	w.Signed(-1)
	w.Signed(1)
	w.Signed(-64)
	w.Signed(64)
	w.Signed(math.MaxInt64)
	w.Signed(math.MinInt64)
	w.Text("")
	w.Text("hé")
	w.Flag(true)
	w.Flag(false)
	want := "\x00" + "\x7f" + "\x80\x01" + "\xff\xff\xff\xff\xff\xff\xff\xff\xff\x01" +
		"\x00" + "\x01" + "\x02" + "\x7f" + "\x80\x01" + "\xfe\xff\xff\xff\xff\xff\xff\xff\xff\x01" + "\xff\xff\xff\xff\xff\xff\xff\xff\xff\x01" +
		"\x00" + "\x03h\xc3\xa9" + "\x01" + "\x00"
	if string(w.Bytes()) != want {
		t.Errorf("%x, not %x", w.Bytes(), want)
	}
}

func TestP8_1_WriteNumber(t *testing.T) {
	for _, n := range numbers() {
		want := numberByWords(n)
		if !bytes.Equal(want, binary.AppendUvarint(nil, n)) {
			t.Fatalf("%d: the words and the library differ", n)
		}
		isWritten(t, fmt.Sprint(n), want, func(w *pack.Writer) { w.Number(n) })
	}
}

func TestP8_1_WriteSigned(t *testing.T) {
	for _, n := range signedNumbers() {
		want := numberByWords(signedByWords(n))
		if !bytes.Equal(want, binary.AppendVarint(nil, n)) {
			t.Fatalf("%d: the words and the library differ", n)
		}
		isWritten(t, fmt.Sprint(n), want, func(w *pack.Writer) { w.Signed(n) })
	}
}

func TestP8_1_WriteTextAndFlag(t *testing.T) {
	for _, s := range texts() {
		isWritten(t, fmt.Sprintf("%.40q, %d bytes", s, len(s)), textByWords(s), func(w *pack.Writer) { w.Text(s) })
	}
	for _, is := range []bool{false, true} {
		isWritten(t, fmt.Sprint(is), flagByWords(is), func(w *pack.Writer) { w.Flag(is) })
	}
}

// A writer's bytes are those of all that it was told, in order, whenever it is asked for them, and however often.
func TestP8_1_BytesOfRows(t *testing.T) {
	r := rand.New(rand.NewSource(81))
	some, signedOnes, words := numbers(), signedNumbers(), texts()[:20]
	for range 300 {
		w := pack.NewWriter()
		var want []byte
		if got := w.Bytes(); len(got) > 0 {
			t.Fatalf("a new one has %v", got)
		}
		for range r.Intn(30) {
			switch n, s, x := some[r.Intn(len(some))], signedOnes[r.Intn(len(signedOnes))], words[r.Intn(len(words))]; r.Intn(5) {
			case 0:
				w.Number(n)
				want = append(want, numberByWords(n)...)
			case 1:
				w.Signed(s)
				want = append(want, numberByWords(signedByWords(s))...)
			case 2:
				w.Text(x)
				want = append(want, textByWords(x)...)
			case 3:
				w.Flag(n%2 == 1)
				want = append(want, flagByWords(n%2 == 1)...)
			case 4:
				if got := w.Bytes(); !bytes.Equal(got, want) {
					t.Fatalf("%v, not %v", got, want)
				}
			}
		}
		for range 2 {
			if got := w.Bytes(); !bytes.Equal(got, want) {
				t.Fatalf("%v, not %v", got, want)
			}
		}
	}
}

// Each byte alone, each two, and rows out of those at the edges, are read by each call as said.
func TestP8_1_ReadAllShortRows(t *testing.T) {
	each := func(b []byte) {
		for _, c := range calls() {
			isAsSaid(t, b, c, bad(), end(), c, bad(), end())
		}
	}
	for long := range 3 {
		rowsOfBytes(long, allBytes(), each)
	}
	for long := 3; long < 6; long++ {
		rowsOfBytes(long, []byte{0, 1, 2, 127, 128, 129, 255}, each)
	}
}

// All rows of four calls, without anything asked between, on bytes of which some are there and some aren't.
func TestP8_1_ReadRowsOfCalls(t *testing.T) {
	l := calls()
	for _, s := range []string{"", "\x01", "\x02\x01", "\x80\x00\x01\x01", "\x00\x01\x80\x01\x00\x01", "\x82\x01\x02\x00\x01", "\x01a\x01\x00\x02ab\x00", "\x03\x01\x01\x01\x05\x01\x01"} {
		b := []byte(s)
		for _, c := range l {
			for _, d := range l {
				for _, e := range l {
					for _, f := range l {
						isAsSaid(t, b, c, d, e, f)
					}
				}
			}
		}
	}
}

// Long rows of calls, on any bytes, most of them such as are there.
func TestP8_1_ReadLongRows(t *testing.T) {
	r := rand.New(rand.NewSource(82))
	l, some := calls(), numbers()
	for range 20000 {
		var b []byte
		var row []call
		for range r.Intn(12) {
			n := some[r.Intn(len(some))]
			switch r.Intn(6) {
			case 0:
				b, row = append(b, numberByWords(n)...), append(row, number(n+uint64(r.Intn(3))))
			case 1:
				b, row = append(b, numberByWords(n)...), append(row, signed())
			case 2:
				long := int(n % 200)
				b, row = append(b, textByWords(strings.Repeat("x", long))...), append(row, text(long+r.Intn(2)))
			case 3:
				b, row = append(b, byte(n%2)), append(row, flag())
			case 4:
				row = append(row, end(), bad())
			case 5:
				if r.Intn(4) == 0 {
					b, row = append(b, byte(n)), append(row, l[r.Intn(len(l))])
				}
			}
		}
		isAsSaid(t, b, append(row, end(), bad(), l[r.Intn(len(l))], end(), bad())...)
	}
}

// A number is read just if it isn't above the most, whatever stands behind it.
func TestP8_1_ReadNumberAtTheMost(t *testing.T) {
	for _, n := range numbers() {
		b := append(numberByWords(n), 5)
		for _, most := range []uint64{0, n / 2, n - 1, n, n + 1, math.MaxInt64, 1 << 63, math.MaxUint64} {
			r := pack.NewReader(b)
			got := r.Number(most)
			if n <= most && (got != n || r.Bad() || r.End() || r.Number(5) != 5 || !r.End()) {
				t.Fatalf("%d, at most %d: %d", n, most, got)
			}
			if n > most && (got != 0 || !r.Bad() || r.End() || r.Number(5) != 0) {
				t.Fatalf("%d, at most %d: %d", n, most, got)
			}
		}
	}
}

// Of a number's bytes none may be left out, and none added: not 0 at the end, however many.
func TestP8_1_ReadPartsOfNumbers(t *testing.T) {
	for _, n := range numbers() {
		b := numberByWords(n)
		for k := range b {
			isAsSaid(t, b[:k], number(math.MaxUint64), bad(), end())
		}
		for k := range 12 {
			more := bytes.Clone(b)
			more[len(more)-1] += 128
			more = append(more, bytes.Repeat([]byte{128}, k)...)
			more = append(more, 0)
			isAsSaid(t, more, number(math.MaxUint64), bad(), end())
			r := pack.NewReader(more)
			if got := r.Number(math.MaxUint64); got != 0 || !r.Bad() {
				t.Fatalf("%v: %d", more, got)
			}
		}
	}
}

// Ten bytes have room for more than there are numbers: the tenth is 1 at most, and nothing goes on behind it.
func TestP8_1_ReadTheLongest(t *testing.T) {
	r := rand.New(rand.NewSource(83))
	for _, ninth := range [][]byte{bytes.Repeat([]byte{128}, 9), bytes.Repeat([]byte{255}, 9), []byte("\x81\x82\x83\x84\x85\x86\x87\x88\x89"), []byte("\x80\x80\x80\x80\x80\x80\x80\x80\xff")} {
		for c := range 256 {
			tenth := append(bytes.Clone(ninth), byte(c))
			isAsSaid(t, tenth, number(math.MaxUint64), bad(), end())
			isAsSaid(t, tenth, signed(), bad(), end())
			for d := range 256 {
				isAsSaid(t, append(bytes.Clone(tenth), byte(d)), number(math.MaxUint64), bad(), end())
			}
			reader := pack.NewReader(tenth)
			if n := reader.Number(math.MaxUint64); reader.Bad() != (c != 1) || (n == 0) != (c != 1) {
				t.Fatalf("%v: %d", tenth, n)
			}
		}
	}
	for range 20000 {
		b := make([]byte, r.Intn(14))
		r.Read(b)
		for i := range b {
			b[i] |= 128
		}
		if len(b) > 0 {
			b[len(b)-1] &= byte(r.Intn(256))
		}
		isAsSaid(t, b, number(math.MaxUint64), bad(), end(), number(math.MaxUint64), bad(), end())
	}
	long := append(bytes.Repeat([]byte{128}, 1<<16), 1)
	isAsSaid(t, long, number(math.MaxUint64), bad(), end())
}

// A text is read just if it isn't longer than the most, and all its bytes are there; a most below 0 is 0.
func TestP8_1_ReadTextAtTheMost(t *testing.T) {
	for _, s := range texts() {
		b := append(textByWords(s), 1)
		for _, most := range []int{math.MinInt, math.MinInt32, -len(s), -2, -1, 0, len(s) / 2, len(s) - 1, len(s), len(s) + 1, math.MaxInt32, math.MaxInt - 1, math.MaxInt} {
			r := pack.NewReader(b)
			got := r.Text(most)
			if is := len(s) <= max(most, 0); is && (got != s || r.Bad() || r.End() || !r.Flag() || !r.End()) || !is && (got != "" || !r.Bad() || r.End() || r.Flag()) {
				t.Fatalf("%.40q, %d bytes, at most %d: %.40q", s, len(s), most, got)
			}
		}
	}
}

func TestP8_1_ReadPartsOfTexts(t *testing.T) {
	for _, s := range texts() {
		b := textByWords(s)
		for k := range min(len(b), 400) {
			for _, b := range [][]byte{b[:k], b[:len(b)-1-k]} {
				isAsSaid(t, b, text(math.MaxInt), bad(), end(), text(math.MaxInt), bad())
				isAsSaid(t, b, text(len(s)), bad(), end(), flag(), bad())
			}
		}
	}
}

// Lengths that are told wrong, at all edges, and so that they would wrap as other numbers.
func TestP8_1_ReadTextsOfAnotherLength(t *testing.T) {
	for _, long := range append(numbers()[:300], math.MaxInt32, 1<<31, 1<<32, 1<<32+1, 1<<32+3, math.MaxInt64-1, math.MaxInt64, 1<<63, 1<<63+3, math.MaxUint64-3, math.MaxUint64) {
		for _, s := range texts()[:24] {
			b := append(numberByWords(long), s...)
			for _, most := range []int{-1, 0, 3, len(s), math.MaxInt32, math.MaxInt} {
				isAsSaid(t, b, text(most), bad(), end(), number(1), bad(), end())
			}
		}
	}
	// Its own number may be told in one way alone, too.
	for _, s := range []string{"\x80\x00", "\x83\x00abc", "\x83\x80\x00abc"} {
		r := pack.NewReader([]byte(s))
		if got := r.Text(9); got != "" || !r.Bad() {
			t.Errorf("%q: %q", s, got)
		}
	}
}

// Of all bytes two are flags.
func TestP8_1_ReadFlag(t *testing.T) {
	for c := range 256 {
		for _, behind := range [][]byte{nil, {0}, {1}, {255}} {
			r := pack.NewReader(append([]byte{byte(c)}, behind...))
			if is := r.Flag(); is != (c == 1) || r.Bad() != (c > 1) || r.End() != (c <= 1 && behind == nil) {
				t.Errorf("%d ahead of %v: %v, bad: %v, at the end: %v", c, behind, is, r.Bad(), r.End())
			}
		}
	}
	r := pack.NewReader(nil)
	if r.Flag() || !r.Bad() {
		t.Error("of none")
	}
}

func TestP8_1_ReadSigned(t *testing.T) {
	for _, n := range signedNumbers() {
		b := numberByWords(signedByWords(n))
		r := pack.NewReader(b)
		if got := r.Signed(); got != n || r.Bad() || !r.End() {
			t.Fatalf("%v: %d, not %d", b, got, n)
		}
		isAsSaid(t, b[:len(b)-1], signed(), bad(), end(), signed(), bad())
	}
}

// However a reader got bad, it reads 0, nothing and no from then on, though the bytes behind are fine; it never is at its end.
func TestP8_1_BadStaysBad(t *testing.T) {
	for name, spoil := range map[string]struct {
		b    string
		call func(*pack.Reader)
	}{
		"no number":       {"\x80\x00", func(r *pack.Reader) { r.Number(9) }},
		"too much":        {"\x0a", func(r *pack.Reader) { r.Number(9) }},
		"no signed":       {"\x80\x00", func(r *pack.Reader) { r.Signed() }},
		"no length":       {"\x80\x00", func(r *pack.Reader) { r.Text(9) }},
		"too long":        {"\x02", func(r *pack.Reader) { r.Text(1) }},
		"too few":         {"\x7f", func(r *pack.Reader) { r.Text(1000) }},
		"no flag":         {"\x02", func(r *pack.Reader) { r.Flag() }},
		"many read ahead": {"\x01\x01\x01a\x02", func(r *pack.Reader) { r.Number(1); r.Signed(); r.Text(1); r.Flag() }},
	} {
		for _, behind := range []string{"", "\x01", "\x01\x01\x01\x01", "\x01a\x01b"} {
			r := pack.NewReader([]byte(spoil.b + behind))
			spoil.call(r)
			for range 3 {
				if n, s, x, is := r.Number(math.MaxUint64), r.Signed(), r.Text(math.MaxInt), r.Flag(); n != 0 || s != 0 || x != "" || is || !r.Bad() || r.End() {
					t.Errorf("%s, ahead of %q: %d %d %q %v, bad: %v, at the end: %v", name, behind, n, s, x, is, r.Bad(), r.End())
				}
			}
		}
	}
}

// At the end a reader isn't bad, until it is asked for more.
func TestP8_1_EndIsNotBad(t *testing.T) {
	for _, c := range []call{number(math.MaxUint64), signed(), text(math.MaxInt), flag()} {
		for _, b := range [][]byte{nil, {}} {
			r, m := pack.NewReader(b), &byWords{}
			for range 2 {
				if !r.End() || r.Bad() {
					t.Error("a reader of none isn't at its end")
				}
			}
			if c.do(r, m); !r.Bad() || r.End() {
				t.Errorf("%s of none isn't bad", c.name)
			}
		}
		r, m := pack.NewReader([]byte{0}), &byWords{b: []byte{0}}
		if r.End() || r.Bad() {
			t.Error("of one byte")
		}
		if c.do(r, m); !r.End() || r.Bad() {
			t.Errorf("%s of 0 isn't at its end", c.name)
		}
		if c.do(r, m); r.End() || !r.Bad() {
			t.Errorf("%s behind the end isn't bad", c.name)
		}
	}
}

func TestP8_1_NilWriter(t *testing.T) {
	var w *pack.Writer
	for range 2 {
		w.Number(300)
		w.Signed(-1)
		w.Text("abc")
		w.Text("")
		w.Flag(true)
		w.Flag(false)
		if b := w.Bytes(); len(b) > 0 {
			t.Errorf("it took %v", b)
		}
	}
}

func TestP8_1_NilReader(t *testing.T) {
	var r *pack.Reader
	for range 2 {
		if n, s, x, is := r.Number(math.MaxUint64), r.Signed(), r.Text(9), r.Flag(); n != 0 || s != 0 || x != "" || is || !r.Bad() || r.End() {
			t.Errorf("%d %d %q %v, bad: %v, at the end: %v", n, s, x, is, r.Bad(), r.End())
		}
	}
}

// Whoever writes into a writer's bytes changes none of the writer's; what is told later changes none that were answered.
func TestP8_1_BytesAreNew(t *testing.T) {
	w := pack.NewWriter()
	w.Text("hello")
	first, second := w.Bytes(), w.Bytes()
	_ = append(first, "!!!!!!!!"...)
	clear(first)
	if string(second) != "\x05hello" || string(w.Bytes()) != "\x05hello" {
		t.Errorf("%q and %q hang on the answer", second, w.Bytes())
	}
	w.Flag(true)
	w.Number(300)
	_ = append(second, "????????"...)
	if string(second) != "\x05hello" || string(w.Bytes()) != "\x05hello\x01\xac\x02" {
		t.Errorf("%q, %q", second, w.Bytes())
	}
}

// A reader hangs on the bytes as they were handed in; they stay as they are.
func TestP8_1_ArgumentsStayAndAreNotKept(t *testing.T) {
	around := []byte("<<\x01\x03abc\xac\x02\x01>>")
	was := bytes.Clone(around)
	part := around[2 : len(around)-2]
	r, other := pack.NewReader(part), pack.NewReader(part)
	read := func(r *pack.Reader) string {
		return fmt.Sprintf("%v %q %d %d %v %v %v %v", r.Flag(), r.Text(3), r.Number(300), r.Signed(), r.End(), r.Bad(), r.Flag(), r.Bad())
	}
	want := `true "abc" 300 -1 true false false true`
	if got := read(r); got != want || !bytes.Equal(around, was) {
		t.Errorf("%s, and %q is left", got, around)
	}
	clear(around)
	if got := read(other); got != want {
		t.Errorf("%s, once the bytes were written into", got)
	}
}

// Writers and readers don't hang on others.
func TestP8_1_EachForItself(t *testing.T) {
	v, w := pack.NewWriter(), pack.NewWriter()
	v.Number(1)
	w.Number(2)
	v.Text("v")
	w.Text("w")
	if string(v.Bytes()) != "\x01\x01v" || string(w.Bytes()) != "\x02\x01w" {
		t.Errorf("%q %q", v.Bytes(), w.Bytes())
	}
	b := []byte{1, 2, 3}
	q, r := pack.NewReader(b), pack.NewReader(b)
	q.Number(9)
	q.Number(1)
	if !q.Bad() || r.Bad() || r.Number(9) != 1 || r.Number(9) != 2 || r.Number(9) != 3 || !r.End() {
		t.Error("a reader hangs on another one")
	}
}

// thing is one thing of some kind: told to a writer, and asked back from a reader.
type thing struct {
	name string
	tell func(*pack.Writer)
	is   func(*pack.Reader) bool
}

func aNumber(n uint64) thing {
	return thing{fmt.Sprint("number ", n), func(w *pack.Writer) { w.Number(n) }, func(r *pack.Reader) bool { return r.Number(n) == n }}
}

func aSigned(n int64) thing {
	return thing{fmt.Sprint("signed ", n), func(w *pack.Writer) { w.Signed(n) }, func(r *pack.Reader) bool { return r.Signed() == n }}
}

func aText(s string) thing {
	return thing{fmt.Sprintf("text of %d bytes", len(s)), func(w *pack.Writer) { w.Text(s) }, func(r *pack.Reader) bool { return r.Text(len(s)) == s }}
}

func aFlag(is bool) thing {
	return thing{fmt.Sprint("flag ", is), func(w *pack.Writer) { w.Flag(is) }, func(r *pack.Reader) bool { return r.Flag() == is }}
}

// things are all numbers, signed numbers, texts and flags of the tests.
func things() []thing {
	l := []thing{aFlag(false), aFlag(true)}
	for _, n := range numbers() {
		l = append(l, aNumber(n))
	}
	for _, n := range signedNumbers() {
		l = append(l, aSigned(n))
	}
	for _, s := range texts() {
		l = append(l, aText(s))
	}
	return l
}

// isBack asks that things that were written, one behind the other, are read as they were, and nothing is left.
func isBack(t *testing.T, l ...thing) {
	t.Helper()
	w := pack.NewWriter()
	for _, x := range l {
		x.tell(w)
	}
	r := pack.NewReader(w.Bytes())
	for i, x := range l {
		if r.End() || !x.is(r) || r.Bad() {
			t.Fatalf("%s, as number %d, isn't read as it was", x.name, i)
		}
	}
	if !r.End() {
		t.Fatal("something is left")
	}
}

func TestP8_2_ThereAndBack(t *testing.T) {
	for _, x := range things() {
		isBack(t, x)
	}
	isBack(t)
}

func TestP8_2_ManyThereAndBack(t *testing.T) {
	r := rand.New(rand.NewSource(84))
	l, words, some := things(), texts(), numbers()
	isBack(t, l...)
	for range 2000 {
		var row []thing
		for range r.Intn(40) {
			// Texts and flags are few among all things, and the longest text would take long each time.
			x := []thing{aFlag(r.Intn(2) == 0), aText(words[r.Intn(len(words)-1)]), aNumber(some[r.Intn(len(some))]), l[r.Intn(len(l)-1)]}
			row = append(row, x[r.Intn(4)])
		}
		isBack(t, row...)
	}
}

// isAsItStood asks that what is read of bytes by kinds of calls (n, s, t, f), if it is there, is written as it stood; it tells whether it is.
func isAsItStood(t *testing.T, b []byte, kinds string) bool {
	t.Helper()
	r, w := pack.NewReader(b), pack.NewWriter()
	for _, k := range kinds {
		switch k {
		case 'n':
			w.Number(r.Number(math.MaxUint64))
		case 's':
			w.Signed(r.Signed())
		case 't':
			w.Text(r.Text(math.MaxInt))
		case 'f':
			w.Flag(r.Flag())
		}
	}
	if r.Bad() {
		return false
	}
	got := w.Bytes()
	if !bytes.HasPrefix(b, got) || r.End() != (len(got) == len(b)) {
		t.Fatalf("%v, read as %s, was written as %v", b, kinds, got)
	}
	return true
}

// All bytes that are read at all are written again as they stood.
func TestP8_2_OneWay(t *testing.T) {
	found := 0
	each := func(b []byte) {
		for _, kinds := range []string{"n", "s", "t", "f", "nn", "sn", "tf", "ft", "tt", "nft"} {
			if isAsItStood(t, b, kinds) {
				found++
			}
		}
	}
	for long := range 3 {
		rowsOfBytes(long, allBytes(), each)
	}
	for long := 3; long < 7; long++ {
		rowsOfBytes(long, []byte{0, 1, 2, 128, 129, 255}, each)
	}
	if found < 50000 {
		t.Errorf("only %d were read", found)
	}
}

// Bytes that are close to what a writer wrote: one turned, put in or left out.
func TestP8_2_OneWayCloseBy(t *testing.T) {
	r := rand.New(rand.NewSource(85))
	found, some := 0, numbers()
	for range 50000 {
		w := pack.NewWriter()
		var kinds []byte
		for range 1 + r.Intn(6) {
			n := some[r.Intn(len(some))]
			k := "nstf"[r.Intn(4)]
			kinds = append(kinds, k)
			switch k {
			case 'n':
				w.Number(n)
			case 's':
				w.Signed(int64(n))
			case 't':
				w.Text(strings.Repeat("\x80", int(n%9)))
			case 'f':
				w.Flag(n%2 == 0)
			}
		}
		b := w.Bytes()
		switch i := r.Intn(len(b)); r.Intn(4) {
		case 0:
			b[i] = byte(r.Intn(256))
		case 1:
			b = append(b[:i:i], append([]byte{byte(r.Intn(3)) * 127}, b[i:]...)...)
		case 2:
			b = append(b[:i:i], b[i+1:]...)
		case 3:
			b[i] ^= 128
		}
		if isAsItStood(t, b, string(kinds)) {
			found++
		}
	}
	if found < 5000 {
		t.Errorf("only %d were read", found)
	}
}

// Of all bytes no two are read as the same number.
func TestP8_2_NoNumberTwice(t *testing.T) {
	read := map[uint64]string{}
	signedRead := map[int64]string{}
	each := func(b []byte) {
		r := pack.NewReader(b)
		if n := r.Number(math.MaxUint64); r.End() {
			if was, ok := read[n]; ok {
				t.Fatalf("%q and %q are %d", was, b, n)
			}
			read[n] = string(b)
		}
		r = pack.NewReader(b)
		if n := r.Signed(); r.End() {
			if was, ok := signedRead[n]; ok {
				t.Fatalf("%q and %q are %d", was, b, n)
			}
			signedRead[n] = string(b)
		}
	}
	for long := range 3 {
		rowsOfBytes(long, allBytes(), each)
	}
	for long := 3; long < 7; long++ {
		rowsOfBytes(long, []byte{0, 1, 64, 127, 128, 129, 192, 255}, each)
	}
	// One byte is 128 numbers, two are 127 for each of 128 first ones; of the eight bytes of longer rows four go on, and three of the others may end one.
	if want := 128 + 128*127 + 3*(4*4+4*4*4+4*4*4*4+4*4*4*4*4); len(read) != want || len(signedRead) != want {
		t.Errorf("%d and %d numbers, not %d", len(read), len(signedRead), want)
	}
}
