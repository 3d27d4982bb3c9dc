package crc_test

import (
	"bytes"
	"hash/crc32"
	"math/rand"
	"testing"

	"vespers/crc"
)

// The tests hold the calls against the chapter's words, taken one by one, and against the library's sums.

// rowBehind is a row of 32 bits behind bytes, put on it byte by byte and bit by bit, as the chapter says.
func rowBehind(row uint32, b []byte) uint32 {
	for _, c := range b {
		row ^= uint32(c)
		for range 8 {
			went := row % 2
			row /= 2
			if went == 1 {
				row ^= 0xedb88320
			}
		}
	}
	return row
}

// sumByWords is the sum of bytes, from a row that begins as the chapter says.
func sumByWords(b []byte) uint32 {
	return rowBehind(0xffffffff, b) ^ 0xffffffff
}

// moreByWords goes on from a sum, whose bits are turned back.
func moreByWords(sum uint32, b []byte) uint32 {
	return rowBehind(sum^0xffffffff, b) ^ 0xffffffff
}

// edgeSums are sums at the edges of 32 bits, and each bit alone, set and not.
func edgeSums() []uint32 {
	l := []uint32{0, 1, 2, 15, 16, 255, 256, 0x7fffffff, 0x80000000, 0x80000001, 0xfffffffe, 0xffffffff, 0xedb88320, ^uint32(0xedb88320), 0x04c11db7, 0xcbf43926, 0xdebb20e3, 0x2144df1c}
	for bit := range 32 {
		l = append(l, 1<<bit, ^uint32(1<<bit))
	}
	return l
}

// rows are rows of bytes: none, each byte alone and behind others, long ones of one byte, and random ones.
func rows() [][]byte {
	l := [][]byte{nil, {}, []byte("a"), []byte("123456789"), []byte("\x00"), []byte("\x00\x00\x00\x00"), []byte("\xff\xff\xff\xff"), []byte("aé€😀\xc3")}
	for c := range 256 {
		l = append(l, []byte{byte(c)}, []byte{0, byte(c)}, []byte{byte(c), 0}, []byte{0xff, byte(c), 0xff, byte(255 - c)})
	}
	for _, c := range []byte{0, 1, 0x0f, 0xf0, 0x80, 0xff} {
		for _, n := range []int{2, 3, 4, 5, 7, 8, 9, 15, 16, 17, 255, 256, 257, 4096} {
			l = append(l, bytes.Repeat([]byte{c}, n))
		}
	}
	r := rand.New(rand.NewSource(4))
	for n := range 300 {
		b := make([]byte, n)
		r.Read(b)
		l = append(l, b)
	}
	return l
}

func TestP4_1_ExampleOfTheChapter(t *testing.T) {
	if got := crc.Sum([]byte("123456789")); got != 0xcbf43926 {
		t.Errorf("Sum of 123456789: %#08x", got)
	}
}

func TestP4_1_KnownSums(t *testing.T) {
	for s, want := range map[string]uint32{
		"":                 0,
		"\x00":             0xd202ef8d,
		"\xff":             0xff000000,
		"a":                0xe8b7be43,
		"abc":              0x352441c2,
		"\x00\x00\x00\x00": 0x2144df1c,
		"\xff\xff\xff\xff": 0xffffffff,
		"The quick brown fox jumps over the lazy dog": 0x414fa339,
	} {
		if got := crc.Sum([]byte(s)); got != want {
			t.Errorf("Sum(%q): %#08x, not %#08x", s, got, want)
		}
	}
}

func TestP4_1_Sum(t *testing.T) {
	for _, b := range rows() {
		got := crc.Sum(b)
		if want := sumByWords(b); got != want {
			t.Errorf("Sum(%.20x), %d bytes: %#08x, not %#08x", b, len(b), got, want)
		}
		if want := crc32.ChecksumIEEE(b); got != want {
			t.Errorf("Sum(%.20x), %d bytes: %#08x, not the library's %#08x", b, len(b), got, want)
		}
	}
}

// All rows of two bytes: each half of a byte comes behind each other one.
func TestP4_1_SumOfAllPairs(t *testing.T) {
	for first := range 256 {
		for second := range 256 {
			b := []byte{byte(first), byte(second)}
			if got, want := crc.Sum(b), sumByWords(b); got != want {
				t.Fatalf("Sum(%x): %#08x, not %#08x", b, got, want)
			}
		}
	}
}

func TestP4_1_SumOfManyBytes(t *testing.T) {
	b := make([]byte, 1<<22)
	if got, want := crc.Sum(b), crc32.ChecksumIEEE(b); got != want {
		t.Errorf("of 2^22 bytes 0: %#08x, not %#08x", got, want)
	}
	rand.New(rand.NewSource(5)).Read(b)
	if got, want := crc.Sum(b), crc32.ChecksumIEEE(b); got != want {
		t.Errorf("of 2^22 bytes: %#08x, not %#08x", got, want)
	}
}

// A sum tells two rows apart that are alike but for one bit.
func TestP4_1_SumOfAnotherBit(t *testing.T) {
	b := []byte("a frame's payload, its number")
	sum := crc.Sum(b)
	for bit := range 8 * len(b) {
		b[bit/8] ^= 1 << (bit % 8)
		if crc.Sum(b) == sum {
			t.Errorf("bit %d: the same sum", bit)
		}
		b[bit/8] ^= 1 << (bit % 8)
	}
}

// More is answered of any sum at all, not of those alone that Sum answered.
func TestP4_1_More(t *testing.T) {
	sums := edgeSums()
	r := rand.New(rand.NewSource(6))
	for range 100 {
		sums = append(sums, r.Uint32())
	}
	for _, b := range rows() {
		for _, sum := range sums {
			got := crc.More(sum, b)
			if want := moreByWords(sum, b); got != want {
				t.Fatalf("More(%#08x, %.20x), %d bytes: %#08x, not %#08x", sum, b, len(b), got, want)
			}
			if want := crc32.Update(sum, crc32.IEEETable, b); got != want {
				t.Fatalf("More(%#08x, %.20x), %d bytes: %#08x, not the library's %#08x", sum, b, len(b), got, want)
			}
		}
	}
}

func TestP4_1_NoBytes(t *testing.T) {
	for _, b := range [][]byte{nil, {}, []byte("abc")[:0], []byte("abc")[3:]} {
		if got := crc.Sum(b); got != 0 {
			t.Errorf("Sum of none: %#08x", got)
		}
		for _, sum := range edgeSums() {
			if got := crc.More(sum, b); got != sum {
				t.Errorf("More(%#08x, none): %#08x", sum, got)
			}
		}
	}
}

// What is handed in stays as it is, and bytes that lie around it don't count.
func TestP4_1_ArgumentsStay(t *testing.T) {
	for _, b := range rows() {
		around := append(append([]byte{0xaa, 0xbb}, b...), 0xcc, 0xdd)
		was := bytes.Clone(around)
		part := around[2 : 2+len(b)]
		if got, want := crc.Sum(part), sumByWords(b); got != want {
			t.Errorf("Sum(%.20x), among others: %#08x, not %#08x", b, got, want)
		}
		if got, want := crc.More(0xcbf43926, part), moreByWords(0xcbf43926, b); got != want {
			t.Errorf("More(.., %.20x), among others: %#08x, not %#08x", b, got, want)
		}
		if !bytes.Equal(around, was) {
			t.Errorf("%.20x was changed", was)
		}
	}
}

// An answer hangs on the arguments alone, and not on calls ahead of it, nor on what is written into the bytes behind it.
func TestP4_1_NothingIsKept(t *testing.T) {
	b := []byte("123456789")
	for range 3 {
		sum, more := crc.Sum(b), crc.More(1, b)
		if sum != 0xcbf43926 || more != moreByWords(1, b) {
			t.Fatalf("%#08x, %#08x", sum, more)
		}
		b[4] = 'x'
		if crc.Sum(b) == sum || crc.More(1, b) == more {
			t.Fatal("the sum of other bytes is the same")
		}
		b[4] = '5'
	}
}

func TestP4_2_OneAfterTheOther(t *testing.T) {
	for _, b := range rows() {
		want := crc.Sum(b)
		for i := 0; i <= len(b); i++ {
			if got := crc.More(crc.Sum(b[:i]), b[i:]); got != want {
				t.Fatalf("%.20x, %d bytes, cut at %d: %#08x, not %#08x", b, len(b), i, got, want)
			}
		}
	}
}

// Two rows, in both orders, held against what the library says of them joined.
func TestP4_2_TwoRows(t *testing.T) {
	l := rows()
	r := rand.New(rand.NewSource(7))
	for range 5000 {
		a, b := l[r.Intn(len(l))], l[r.Intn(len(l))]
		joined := append(bytes.Clone(a), b...)
		if got, want := crc.More(crc.Sum(a), b), crc32.ChecksumIEEE(joined); got != want {
			t.Fatalf("More of %.20x, %.20x: %#08x, not %#08x", a, b, got, want)
		}
	}
}

func TestP4_2_ByteByByte(t *testing.T) {
	b := make([]byte, 10000)
	rand.New(rand.NewSource(8)).Read(b)
	sum := crc.Sum(nil)
	for i := range b {
		sum = crc.More(sum, b[i:i+1])
		if i%500 == 0 && sum != crc32.ChecksumIEEE(b[:i+1]) {
			t.Fatalf("behind %d bytes: %#08x", i+1, sum)
		}
	}
	if sum != crc.Sum(b) {
		t.Errorf("%#08x, not %#08x", sum, crc.Sum(b))
	}
}

// Three rows: More of More is More of both joined.
func TestP4_2_MoreOfMore(t *testing.T) {
	l := rows()
	r := rand.New(rand.NewSource(9))
	for _, sum := range edgeSums() {
		for range 50 {
			a, b := l[r.Intn(len(l))], l[r.Intn(len(l))]
			joined := append(bytes.Clone(a), b...)
			if got, want := crc.More(crc.More(sum, a), b), crc.More(sum, joined); got != want {
				t.Fatalf("More(More(%#08x, %.20x), %.20x): %#08x, not %#08x", sum, a, b, got, want)
			}
		}
	}
}
