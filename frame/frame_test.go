package frame_test

import (
	"bytes"
	"encoding/binary"
	"hash/crc32"
	"math"
	"math/rand"
	"testing"

	"vespers/api"
	"vespers/frame"
)

// The tests hold the calls against frames that are laid by the library's numbers and sums, as the chapter tells them.

// edges are numbers of 32 bits at their edges, and such as differ in one byte.
var edges = []uint32{0, 1, 2, 3, 127, 128, 255, 256, 257, 1 << 16, 1<<16 + 1, 1 << 24, 1<<24 + 1, 0x01020304, 0x04030201, math.MaxInt32, 1 << 31, math.MaxUint32 - 1, math.MaxUint32}

// laid are bytes like a frame, with a sum that fits, whatever length they tell, and of whatever generation.
func laid(long, gen, number uint32, payload []byte) []byte {
	var b []byte
	for _, n := range []uint32{long, gen, number} {
		b = binary.LittleEndian.AppendUint32(b, n)
	}
	b = append(b, payload...)
	return binary.LittleEndian.AppendUint32(b, crc32.ChecksumIEEE(b))
}

// putByWords is the frame, as the chapter tells it; false, if it may not be.
func putByWords(gen, number uint32, payload []byte) ([]byte, bool) {
	if gen == 0 || len(payload) > 1<<20 {
		return nil, false
	}
	return laid(uint32(len(payload)), gen, number, payload), true
}

// getByWords looks for a payload whose frame bytes begin with, of each length that they have room for.
func getByWords(b []byte, gen, number uint32) ([]byte, bool) {
	for n := range len(b) {
		if n+16 > len(b) {
			break
		}
		f, ok := putByWords(gen, number, b[12:12+n])
		if ok && bytes.HasPrefix(b, f) {
			return b[12 : 12+n], true
		}
	}
	return nil, false
}

// put is a frame that may be.
func put(t *testing.T, gen, number uint32, payload []byte) []byte {
	t.Helper()
	b, e := frame.Put(gen, number, payload)
	if e != api.OK {
		t.Fatalf("Put(%d, %d, %d bytes): %d", gen, number, len(payload), e)
	}
	return b
}

// isRead asks that bytes begin with a frame of a payload.
func isRead(t *testing.T, b []byte, gen, number uint32, payload []byte) {
	t.Helper()
	got, n, ok := frame.Get(b, gen, number)
	if !ok || n != 16+len(payload) || !bytes.Equal(got, payload) {
		t.Fatalf("Get(%.40x, %d, %d), %d bytes: %.40x %d %v, not %.40x", b, gen, number, len(b), got, n, ok, payload)
	}
}

// isNone asks that bytes don't begin with a frame.
func isNone(t *testing.T, b []byte, gen, number uint32) {
	t.Helper()
	got, n, ok := frame.Get(b, gen, number)
	if ok || n != 0 || got != nil {
		t.Fatalf("Get(%.40x, %d, %d), %d bytes: %.40x %d %v, where none is", b, gen, number, len(b), got, n, ok)
	}
}

// isAsSaid asks for what the chapter says of bytes, and tells whether they begin with a frame.
func isAsSaid(t *testing.T, b []byte, gen, number uint32) bool {
	t.Helper()
	payload, ok := getByWords(b, gen, number)
	if ok {
		isRead(t, b, gen, number, payload)
	} else {
		isNone(t, b, gen, number)
	}
	return ok
}

// payloads are of no bytes, of few, and of all lengths at which the length's bytes turn; among them are such as look like frames.
func payloads() [][]byte {
	l := [][]byte{nil, {}, {0}, {0xff}, []byte("hello"), make([]byte, 16), bytes.Repeat([]byte{0xff}, 16)}
	inner, _ := putByWords(1, 2, []byte("within"))
	l = append(l, inner, append(bytes.Clone(inner), inner...))
	r := rand.New(rand.NewSource(6))
	for _, n := range []int{1, 2, 3, 4, 5, 11, 12, 13, 15, 16, 17, 255, 256, 257, 1<<16 - 1, 1 << 16, 1<<16 + 1} {
		b := make([]byte, n)
		r.Read(b)
		l = append(l, b)
	}
	return l
}

func TestP6_1_ExampleOfTheChapter(t *testing.T) {
	b := make([]byte, 16)
	for _, gen := range edges {
		isNone(t, b, gen, 0)
	}
	if gen := frame.Gen(b); gen != 0 {
		t.Errorf("Gen: %d", gen)
	}
}

// Frames byte by byte; the sums are known ones.
func TestP6_1_KnownFrames(t *testing.T) {
	for _, x := range []struct {
		gen, number uint32
		payload     string
		want        string
	}{
		{1, 0, "", "\x00\x00\x00\x00\x01\x00\x00\x00\x00\x00\x00\x00\xf1\xc6\x7f\xb7"},
		{0x04030201, 0x08070605, "abc", "\x03\x00\x00\x00\x01\x02\x03\x04\x05\x06\x07\x08abc\xc9\xf4\x82\x87"},
		{math.MaxUint32, math.MaxUint32, "\x00", "\x01\x00\x00\x00\xff\xff\xff\xff\xff\xff\xff\xff\x00\xb4\x7c\xc9\xf2"},
	} {
		b, e := frame.Put(x.gen, x.number, []byte(x.payload))
		if string(b) != x.want || e != api.OK {
			t.Errorf("Put(%#x, %#x, %q): %x %d, not %x", x.gen, x.number, x.payload, b, e, x.want)
		}
		isRead(t, []byte(x.want), x.gen, x.number, []byte(x.payload))
	}
}

func TestP6_1_Put(t *testing.T) {
	for _, payload := range payloads() {
		for _, gen := range edges {
			for _, number := range edges {
				got, e := frame.Put(gen, number, payload)
				want, ok := putByWords(gen, number, payload)
				if !bytes.Equal(got, want) || ok != (e == api.OK) || !ok && (e != api.ErrArg || got != nil) {
					t.Fatalf("Put(%d, %d, %.20x), %d bytes: %.40x %d, not %.40x", gen, number, payload, len(payload), got, e, want)
				}
			}
		}
	}
}

// The longest payload may be, one more byte may not; nor may any of the generation 0.
func TestP6_1_PutOfTheLongest(t *testing.T) {
	long := make([]byte, 1<<21)
	rand.New(rand.NewSource(61)).Read(long)
	for n, want := range map[int]api.Errno{1<<20 - 1: api.OK, 1 << 20: api.OK, 1<<20 + 1: api.ErrArg, 1 << 21: api.ErrArg} {
		b, e := frame.Put(7, 8, long[:n])
		f, _ := putByWords(7, 8, long[:n])
		if e != want || !bytes.Equal(b, f) {
			t.Errorf("%d bytes: a frame of %d bytes, %d", n, len(b), e)
		}
		if b, e := frame.Put(0, 8, long[:n]); b != nil || e != api.ErrArg {
			t.Errorf("%d bytes, generation 0: a frame of %d bytes, %d", n, len(b), e)
		}
	}
}

// Of another generation or number than the one that was put there is no frame, whichever byte differs.
func TestP6_1_GetOfAnother(t *testing.T) {
	for _, payload := range payloads()[:9] {
		for _, gen := range edges[1:] {
			for _, number := range edges {
				b, _ := putByWords(gen, number, payload)
				isRead(t, b, gen, number, payload)
				for _, other := range edges {
					if other != gen {
						isNone(t, b, other, number)
					}
					if other != number {
						isNone(t, b, gen, other)
					}
				}
			}
		}
	}
}

// A frame of which a part is lost is one just if nothing but bytes 0 were lost, and stand there yet.
func TestP6_1_GetOfAPart(t *testing.T) {
	for _, payload := range append(payloads(), []byte("zeros\x00\x00\x00")) {
		if len(payload) > 300 {
			continue
		}
		b, _ := putByWords(3, 9, payload)
		for n := range b {
			isNone(t, b[:n], 3, 9)
			isNone(t, b[:n:n], 3, 9)
			lost := bytes.Clone(b)
			clear(lost[n:])
			if isAsSaid(t, lost, 3, 9) != bytes.Equal(lost, b) {
				t.Fatalf("%x reads as a frame", lost)
			}
		}
	}
}

// With any one bit turned, or any one byte another one, it isn't a frame.
func TestP6_1_GetOfAnotherByte(t *testing.T) {
	for _, payload := range payloads()[:9] {
		b, _ := putByWords(3, 9, payload)
		b = append(b, payload...)
		for i := range 16 + len(payload) {
			for turned := 1; turned < 256; turned++ {
				b[i] ^= byte(turned)
				isNone(t, b, 3, 9)
				b[i] ^= byte(turned)
			}
		}
		isRead(t, b, 3, 9, payload)
	}
}

// A frame whose sum fits, but which may not be, is none: of the generation 0, or with too long a payload.
func TestP6_1_GetOfWhatMayNotBe(t *testing.T) {
	for _, payload := range payloads() {
		for _, number := range edges {
			isNone(t, laid(uint32(len(payload)), 0, number, payload), 0, number)
		}
	}
	long := make([]byte, 1<<20+2)
	rand.New(rand.NewSource(62)).Read(long)
	for n := 1 << 20; n <= len(long); n++ {
		b := laid(uint32(n), 5, 6, long[:n])
		if n == 1<<20 {
			isRead(t, b, 5, 6, long[:n])
		} else {
			isNone(t, b, 5, 6)
			isNone(t, append(b, long...), 5, 6)
		}
	}
}

// Lengths that are told wrong, at all edges, and so that a sum of them and of a frame's other bytes would wrap.
func TestP6_1_GetOfAnotherLength(t *testing.T) {
	lengths := append([]uint32{4, 5, 6, 7, 8, 15, 16, 1<<20 - 1, 1 << 20, 1<<20 + 1}, edges...)
	for back := range uint32(20) {
		lengths = append(lengths, math.MaxUint32-back, 1<<31-back)
	}
	for _, payload := range payloads() {
		for _, long := range lengths {
			if int64(long) != int64(len(payload)) {
				b := laid(long, 5, 6, payload)
				isNone(t, b, 5, 6)
				isNone(t, append(b, make([]byte, 30)...), 5, 6)
			}
		}
	}
}

// Of all parts of a frame the whole alone is one.
func TestP6_1_GetOfAllParts(t *testing.T) {
	b, _ := putByWords(5, 6, []byte("abcdef"))
	for from := range b {
		for to := from; to <= len(b); to++ {
			if isAsSaid(t, b[from:to], 5, 6) != (from == 0 && to == len(b)) {
				t.Fatalf("from %d to %d", from, to)
			}
		}
	}
}

// Any bytes: few of them are frames, and those that are, are read.
func TestP6_1_GetOfAnyBytes(t *testing.T) {
	r := rand.New(rand.NewSource(63))
	found := 0
	for range 20000 {
		b := make([]byte, r.Intn(60))
		r.Read(b)
		gen, number := uint32(r.Intn(3)), uint32(r.Intn(3))
		// Numbers that are likely to be those of a frame.
		words := []uint32{uint32(r.Intn(12)), gen, number}
		for i := 0; i < 3 && len(b) >= 4*i+4; i++ {
			binary.LittleEndian.PutUint32(b[4*i:], words[i])
		}
		if end := 12 + int(words[0]); len(b) >= end+4 && r.Intn(2) == 0 {
			binary.LittleEndian.PutUint32(b[end:], crc32.ChecksumIEEE(b[:end]))
		}
		if r.Intn(4) == 0 {
			gen = uint32(r.Intn(3))
		}
		if isAsSaid(t, b, gen, number) {
			found++
		}
	}
	if found < 1000 {
		t.Errorf("only %d frames", found)
	}
}

func TestP6_1_GetOfFew(t *testing.T) {
	for _, gen := range edges {
		for _, number := range edges {
			isNone(t, nil, gen, number)
			for n := range 16 {
				isNone(t, make([]byte, n), gen, number)
				isNone(t, bytes.Repeat([]byte{0xff}, n), gen, number)
			}
		}
	}
}

// The generation is told of any bytes that are enough, whether they begin with a frame or not.
func TestP6_1_Gen(t *testing.T) {
	for _, payload := range payloads() {
		for _, gen := range edges {
			b := laid(uint32(len(payload)), gen, 9, payload)
			if got := frame.Gen(b); got != gen {
				t.Fatalf("Gen(%.40x): %d", b, got)
			}
			if got := frame.Gen(b[:16]); got != gen {
				t.Fatalf("Gen of the first 16 bytes of %.40x: %d", b, got)
			}
			b[0]++
			b[len(b)-1]++
			if got := frame.Gen(b); got != gen {
				t.Fatalf("Gen(%.40x), which is no frame: %d", b, got)
			}
		}
	}
	b := []byte("0123\x01\x02\x03\x0489ABCDEFG")
	for n := range len(b) + 1 {
		want := uint32(0)
		if n >= 16 {
			want = 0x04030201
		}
		if got := frame.Gen(b[:n]); got != want {
			t.Errorf("of %d bytes: %#x", n, got)
		}
	}
	if frame.Gen(nil) != 0 {
		t.Error("of none")
	}
}

// What is handed in stays as it is, and bytes that lie around it neither count nor change.
func TestP6_1_ArgumentsStay(t *testing.T) {
	for _, payload := range payloads() {
		around := append(append([]byte("<<<"), payload...), ">>>>>>>>>>>>>>>>>>>>"...)
		was := bytes.Clone(around)
		part := around[3 : 3+len(payload)]
		b := put(t, 3, 9, part)
		isRead(t, b, 3, 9, payload)
		if !bytes.Equal(around, was) {
			t.Fatalf("Put changed %.40x", was)
		}
		around = append(append([]byte("<<<"), b...), ">>>"...)
		was = bytes.Clone(around)
		part = around[3 : 3+len(b)]
		isRead(t, part, 3, 9, payload)
		isNone(t, part[:len(b)-1], 3, 9)
		if frame.Gen(part) != 3 || !bytes.Equal(around, was) {
			t.Fatalf("Get or Gen changed %.40x", was)
		}
	}
}

// What is answered is new memory: whoever writes into it, or into what was handed in, changes nothing.
func TestP6_1_AnswersAreNew(t *testing.T) {
	payload := []byte("hello")
	b := put(t, 3, 9, payload)
	want := bytes.Clone(b)
	copy(payload, "HELLO")
	if !bytes.Equal(b, want) {
		t.Error("the frame hangs on the payload")
	}
	copy(b, "????????????????????????")
	if string(payload) != "HELLO" || !bytes.Equal(put(t, 3, 9, []byte("hello")), want) {
		t.Error("the payload, or another frame, hangs on the frame")
	}

	b = bytes.Clone(want)
	got, _, _ := frame.Get(b, 3, 9)
	again, _, _ := frame.Get(b, 3, 9)
	_ = append(got, "!!!!!!!!"...)
	copy(got, "GOT..")
	if !bytes.Equal(b, want) || string(again) != "hello" {
		t.Errorf("%x %q hang on the answer", b, again)
	}
	clear(b)
	if string(again) != "hello" {
		t.Errorf("%q hangs on the bytes that were handed in", again)
	}
}

// An answer doesn't hang on calls ahead of it.
func TestP6_1_NothingIsKept(t *testing.T) {
	b := put(t, 3, 9, []byte("hello"))
	for range 3 {
		frame.Put(0, 9, nil)
		isNone(t, b[1:], 3, 9)
		put(t, 4, 9, []byte("another"))
		if !bytes.Equal(put(t, 3, 9, []byte("hello")), b) || frame.Gen(b) != 3 {
			t.Fatal("another answer")
		}
		isRead(t, b, 3, 9, []byte("hello"))
	}
}

// A frame, whatever stands behind it, is read as what was put.
func TestP6_2_ThereAndBack(t *testing.T) {
	behind := append(payloads(), put(t, 3, 9, []byte("next")), put(t, 4, 10, nil))
	for _, payload := range payloads() {
		for _, gen := range []uint32{1, 2, 256, 0x01020304, 1 << 31, math.MaxUint32} {
			for _, number := range []uint32{0, 1, 0x04030201, math.MaxUint32} {
				b := put(t, gen, number, payload)
				for _, more := range behind {
					isRead(t, append(b[:len(b):len(b)], more...), gen, number, payload)
				}
			}
		}
	}
}

// Payloads of all lengths up to some, with each byte behind the frame.
func TestP6_2_AllShortLengths(t *testing.T) {
	r := rand.New(rand.NewSource(64))
	for n := range 300 {
		payload := make([]byte, n)
		r.Read(payload)
		gen, number := 1+uint32(r.Int63n(math.MaxUint32)), r.Uint32()
		b := put(t, gen, number, payload)
		for c := range 256 {
			isRead(t, append(b[:len(b):len(b)], byte(c)), gen, number, payload)
		}
	}
}

func TestP6_2_TheLongest(t *testing.T) {
	payload := make([]byte, 1<<20)
	rand.New(rand.NewSource(65)).Read(payload)
	for _, n := range []int{1<<20 - 1, 1 << 20} {
		b := put(t, 1, 0, payload[:n])
		isRead(t, b, 1, 0, payload[:n])
		isRead(t, append(b, payload...), 1, 0, payload[:n])
	}
}

// Frames one behind the other are read one by one, each behind the bytes that the one ahead of it has.
func TestP6_2_OneBehindTheOther(t *testing.T) {
	l := payloads()
	var b []byte
	for i, payload := range l {
		b = append(b, put(t, 6, uint32(i), payload)...)
	}
	for i, payload := range l {
		isRead(t, b, 6, uint32(i), payload)
		_, n, _ := frame.Get(b, 6, uint32(i))
		b = b[n:]
	}
	if len(b) > 0 {
		t.Errorf("%d bytes are left", len(b))
	}
}
