package wal_test

import (
	"bytes"
	"encoding/binary"
	"fmt"
	"hash/crc32"
	"math"
	"math/rand"
	"slices"
	"testing"

	"vespers/api"
	"vespers/disk"
	"vespers/wal"
)

// The tests hold each log against one that does what the chapter's words say, on a disk of its own that is told the same: it lays and reads frames by the library's numbers and sums, and works out where they stand anew each time.

// laid is a frame, of whatever generation.
func laid(gen, number uint32, payload []byte) []byte {
	var b []byte
	for _, n := range []uint32{uint32(len(payload)), gen, number} {
		b = binary.LittleEndian.AppendUint32(b, n)
	}
	b = append(b, payload...)
	return binary.LittleEndian.AppendUint32(b, crc32.ChecksumIEEE(b))
}

// framesIn are the payloads of the frames of a generation that bytes begin with, from the number 0 on, and how many bytes these frames have.
func framesIn(b []byte, gen uint32) (payloads [][]byte, n int) {
	for len(b)-n >= 16 {
		long := int64(binary.LittleEndian.Uint32(b[n:]))
		if long > 1<<20 || long > int64(len(b)-n-16) {
			break
		}
		payload := b[n+12 : n+12+int(long)]
		if !bytes.HasPrefix(b[n:], laid(gen, uint32(len(payloads)), payload)) {
			break
		}
		payloads = append(payloads, payload)
		n += 16 + len(payload)
	}
	return payloads, n
}

// byWords is a log as the chapter tells it.
type byWords struct {
	d        *disk.Disk
	fell     bool
	gen      uint32
	payloads [][]byte // the snapshot, and the records
}

func openByWords(d *disk.Disk) (*byWords, api.Errno) {
	if !d.On() {
		return nil, api.ErrDown
	}
	if d.Size()/2 < 64 {
		return nil, api.ErrRange
	}
	w := &byWords{d: d}
	for place := range uint32(2) {
		b := w.half(place)
		gen := binary.LittleEndian.Uint32(b[4:])
		if payloads, _ := framesIn(b, gen); payloads != nil && gen > 0 && gen%2 == place && gen > w.gen {
			w.gen, w.payloads = gen, payloads
		}
	}
	e := api.OK
	if w.gen == 0 {
		e = w.layDown(1, nil)
	} else if behind := w.half(w.gen)[w.end():]; bytes.Trim(behind, "\x00") != nil {
		e = w.sure(w.gen, w.end(), make([]byte, len(behind)))
	}
	if e != api.OK {
		return nil, e
	}
	return w, api.OK
}

// half are the bytes of a generation's half.
func (w *byWords) half(gen uint32) []byte {
	b, e := w.d.Read(int(gen%2)*(w.d.Size()/2), w.d.Size()/2)
	if e != api.OK {
		panic(e)
	}
	return b
}

// end is how many bytes all frames have.
func (w *byWords) end() int { return 16*len(w.payloads) + len(bytes.Join(w.payloads, nil)) }

func (w *byWords) sure(gen uint32, at int, b []byte) api.Errno {
	if e := w.d.Write(int(gen%2)*(w.d.Size()/2)+at, b); e != api.OK {
		return e
	}
	return w.d.Sync()
}

func (w *byWords) layDown(gen uint32, snapshot []byte) api.Errno {
	if e := w.sure(gen, 0, make([]byte, w.d.Size()/2)); e != api.OK {
		return e
	}
	if e := w.sure(gen, 0, laid(gen, 0, snapshot)); e != api.OK {
		return e
	}
	w.gen, w.payloads = gen, [][]byte{snapshot}
	return api.OK
}

func (w *byWords) append(b []byte) api.Errno {
	if w.fell {
		return api.ErrDown
	}
	if w.end()+16+len(b) > w.d.Size()/2 || len(b) > 1<<20 {
		return api.ErrFull
	}
	e := w.sure(w.gen, w.end(), laid(w.gen, uint32(len(w.payloads)), b))
	if e == api.OK {
		w.payloads = append(w.payloads, b)
	}
	return e
}

func (w *byWords) compact(snapshot []byte) api.Errno {
	if w.fell {
		return api.ErrDown
	}
	if 16+len(snapshot) > w.d.Size()/2 || len(snapshot) > 1<<20 {
		return api.ErrFull
	}
	if w.gen == math.MaxUint32 {
		return api.ErrLimit
	}
	return w.layDown(w.gen+1, snapshot)
}

func (w *byWords) room() int {
	r := w.d.Size()/2 - w.end() - 16
	if r < 0 {
		return -1
	}
	return min(r, 1<<20)
}

// has tells a log by what it has.
func has(l *wal.Log) string {
	return fmt.Sprintf("%d %q %q %d", l.Gen(), l.Snapshot(), l.Records(), l.Room())
}

// has tells it likewise.
func (w *byWords) has() string {
	return fmt.Sprintf("%d %q %q %d", w.gen, w.payloads[0], w.payloads[1:], w.room())
}

// both are a disk with logs on it, and what the chapter says of them; calls go to the last ones that were opened.
type both struct {
	d, dWant *disk.Disk
	logs     []*wal.Log
	wants    []*byWords
}

func newBoth(size int) *both { return &both{d: disk.New(size), dWant: disk.New(size)} }

// call is one call, of both sides; it tells what is wrong, if anything is.
type call struct {
	name string
	do   func(*both) string
}

// differs tells two errors that differ.
func differs(got, want api.Errno) string {
	if got == want {
		return ""
	}
	return fmt.Sprintf("%d, not %d", got, want)
}

func open() call {
	return call{"Open", func(b *both) string {
		l, e := wal.Open(b.d)
		w, eWant := openByWords(b.dWant)
		if e != api.OK && l != nil {
			return "a log beside an error"
		}
		if e == api.OK && eWant == api.OK {
			b.logs, b.wants = append(b.logs, l), append(b.wants, w)
		}
		return differs(e, eWant)
	}}
}

func appendTo(s string) call {
	return call{fmt.Sprintf("Append(%q)", s), func(b *both) string {
		if len(b.logs) == 0 {
			return ""
		}
		i := len(b.logs) - 1
		return differs(b.logs[i].Append([]byte(s)), b.wants[i].append([]byte(s)))
	}}
}

func compact(s string) call {
	return call{fmt.Sprintf("Compact(%q)", s), func(b *both) string {
		if len(b.logs) == 0 {
			return ""
		}
		i := len(b.logs) - 1
		return differs(b.logs[i].Compact([]byte(s)), b.wants[i].compact([]byte(s)))
	}}
}

// onDisk is a call of both disks.
func onDisk(name string, do func(*disk.Disk)) call {
	return call{name, func(b *both) string {
		do(b.d)
		do(b.dWant)
		return ""
	}}
}

func write(at int, s string) call {
	return onDisk(fmt.Sprintf("Write(%d, %q)", at, s), func(d *disk.Disk) { d.Write(at, []byte(s)) })
}

func sync() call { return onDisk("Sync", func(d *disk.Disk) { d.Sync() }) }

func fall(keep int) call {
	return onDisk(fmt.Sprintf("Fall(%d)", keep), func(d *disk.Disk) { d.Fall(keep) })
}

func fuse(n, keep int) call {
	return onDisk(fmt.Sprintf("Fuse(%d, %d)", n, keep), func(d *disk.Disk) { d.Fuse(n, keep) })
}

func back() call { return onDisk("Back", (*disk.Disk).Back) }

// older makes an older log the last one, so that calls go to it.
func older() call {
	return call{"older", func(b *both) string {
		if len(b.logs) > 1 {
			last := len(b.logs) - 1
			b.logs[0], b.logs[last] = b.logs[last], b.logs[0]
			b.wants[0], b.wants[last] = b.wants[last], b.wants[0]
		}
		return ""
	}}
}

// do does a row of calls, and after each one asks for what may be asked for without a change; at the end it opens the log anew.
func do(t *testing.T, size int, row ...call) {
	t.Helper()
	b := newBoth(size)
	told := ""
	for _, c := range append(row[:len(row):len(row)], fall(0), back(), open(), open()) {
		told += " " + c.name
		wrong := c.do(b)
		if wrong == "" {
			wrong = b.standsOtherwise()
		}
		if wrong != "" {
			t.Fatalf("of %d bytes:%s: %s", size, told, wrong)
		}
	}
}

// standsOtherwise tells what of a disk and its logs is wrong, if anything is.
func (b *both) standsOtherwise() string {
	if b.d.On() != b.dWant.On() {
		return fmt.Sprintf("the disk is on: %v", b.d.On())
	}
	got, _ := b.d.Read(0, b.d.Size())
	want, _ := b.dWant.Read(0, b.d.Size())
	if !bytes.Equal(got, want) {
		return fmt.Sprintf("the disk has\n%x, not\n%x", got, want)
	}
	for i, l := range b.logs {
		w := b.wants[i]
		// A call is no more than one fall long, so none is missed here.
		w.fell = w.fell || !b.dWant.On()
		if has(l) != w.has() {
			return fmt.Sprintf("log %d has %s, not %s", i, has(l), w.has())
		}
	}
	return ""
}

// text is a text of so many bytes, none of which is 0; of none, if there were fewer.
func text(n int) string {
	b := make([]byte, max(n, 0))
	for i := range b {
		b[i] = byte('a' + i%26)
	}
	return string(b)
}

// opened is the log of a disk.
func opened(t *testing.T, d *disk.Disk) *wal.Log {
	t.Helper()
	l, e := wal.Open(d)
	if e != api.OK {
		t.Fatalf("Open: %d", e)
	}
	return l
}

// isErr asks for an error.
func isErr(t *testing.T, name string, got, want api.Errno) {
	t.Helper()
	if got != want {
		t.Fatalf("%s: %d, not %d", name, got, want)
	}
}

// onto is a disk of so many bytes, with those of a text laid down from a place on.
func onto(size, at int, b []byte) *disk.Disk {
	d := disk.New(size)
	d.Write(at, b)
	d.Sync()
	return d
}

func TestP7_1_ExampleOfTheChapter(t *testing.T) {
	l := opened(t, disk.New(200))
	if l.Gen() != 1 || len(l.Snapshot()) != 0 || len(l.Records()) != 0 || l.Room() != 68 {
		t.Error(has(l))
	}
}

// All bytes of a disk, call by call.
func TestP7_1_Layout(t *testing.T) {
	const size, half = 201, 100
	d := disk.New(size)
	l := opened(t, d)
	first, second := make([]byte, half), make([]byte, half)
	lies := func(when string) {
		t.Helper()
		got, e := d.Read(0, size)
		want := append(append(bytes.Clone(first), second...), 0)
		if e != api.OK || !bytes.Equal(got, want) {
			t.Fatalf("%s:\n%x, not\n%x", when, got, want)
		}
	}
	copy(second, "\x00\x00\x00\x00\x01\x00\x00\x00\x00\x00\x00\x00\xf1\xc6\x7f\xb7")
	lies("Open")
	isErr(t, "Append", l.Append([]byte("one")), api.OK)
	copy(second[16:], laid(1, 1, []byte("one")))
	lies("Append")
	isErr(t, "Append", l.Append(nil), api.OK)
	copy(second[35:], laid(1, 2, nil))
	lies("Append of no bytes")
	isErr(t, "Compact", l.Compact([]byte("snap")), api.OK)
	copy(first, laid(2, 0, []byte("snap")))
	lies("Compact")
	isErr(t, "Append", l.Append([]byte("two")), api.OK)
	copy(first[20:], laid(2, 1, []byte("two")))
	lies("Append")
	isErr(t, "Compact", l.Compact(nil), api.OK)
	second = make([]byte, half)
	copy(second, laid(3, 0, nil))
	lies("Compact with no bytes")
	opened(t, d)
	lies("Open")
}

func TestP7_1_Nil(t *testing.T) {
	var l *wal.Log
	for range 2 {
		if l.Snapshot() != nil || l.Records() != nil || l.Gen() != 0 || l.Room() != -1 {
			t.Error(has(l))
		}
		for _, b := range [][]byte{nil, {}, []byte("a"), make([]byte, 1<<20+1)} {
			isErr(t, "Append", l.Append(b), api.ErrDown)
			isErr(t, "Compact", l.Compact(b), api.ErrDown)
		}
	}
	got, e := wal.Open(nil)
	if got != nil || e != api.ErrDown {
		t.Errorf("Open(nil): %v %d", got, e)
	}
}

// Disks of all sizes around the smallest one, on and off: that it is off is named ahead of that it is small.
func TestP7_1_Sizes(t *testing.T) {
	for size := range 300 {
		d := disk.New(size)
		l, e := wal.Open(d)
		if size < 128 {
			if l != nil || e != api.ErrRange {
				t.Fatalf("of %d bytes: %v %d", size, l, e)
			}
			if b, _ := d.Read(0, size); !bytes.Equal(b, make([]byte, size)) {
				t.Fatalf("of %d bytes: %x was written", size, b)
			}
		} else if e != api.OK || l.Room() != size/2-32 {
			t.Fatalf("of %d bytes: %d, %s", size, e, has(l))
		}
		d.Fall(0)
		if l, e := wal.Open(d); l != nil || e != api.ErrDown {
			t.Fatalf("of %d bytes, off: %v %d", size, l, e)
		}
		do(t, size, open(), appendTo("a"), compact("b"), appendTo("c"), compact(text(size/2-16)), appendTo(""))
	}
}

// Records of all lengths around what there is room for: just those that there is room for are appended, and Room tells which.
func TestP7_1_Room(t *testing.T) {
	for size := 128; size < 136; size++ {
		for first := range size {
			for _, second := range []int{0, 1, size/2 - 48 - first, size/2 - 47 - first} {
				do(t, size, open(), appendTo(text(first)), appendTo(text(second)), appendTo(""), compact(text(first)), appendTo(text(second)), compact(text(second)))
			}
			l := opened(t, disk.New(size))
			want := api.OK
			if first > l.Room() {
				want = api.ErrFull
			}
			isErr(t, "Append", l.Append([]byte(text(first))), want)
			want = api.OK
			if l.Room() < 0 {
				want = api.ErrFull
			}
			isErr(t, "Append of no bytes", l.Append(nil), want)
		}
	}
	// No room for a record without any bytes: -1, from 15 bytes that are left down to none; 0 with 16.
	for left := range 20 {
		l := opened(t, disk.New(200))
		isErr(t, "Compact", l.Compact([]byte(text(84-left))), api.OK)
		if want := max(left-16, -1); l.Room() != want {
			t.Errorf("%d bytes are left: Room %d, not %d", left, l.Room(), want)
		}
	}
}

// On the greatest disk it is the longest payload of a frame that counts, where there is room for a longer one.
func TestP7_1_TheLongest(t *testing.T) {
	long := make([]byte, 1<<20+1)
	rand.New(rand.NewSource(7)).Read(long)
	d := disk.New(api.MaxDisk)
	l := opened(t, d)
	if l.Room() != 1<<20 {
		t.Errorf("Room %d", l.Room())
	}
	isErr(t, "Append of one byte more", l.Append(long), api.ErrFull)
	isErr(t, "Append of the longest", l.Append(long[:1<<20]), api.OK)
	if want := 1<<20 - 48; l.Room() != want {
		t.Errorf("Room %d, not %d", l.Room(), want)
	}
	isErr(t, "Append of one byte more than there is room for", l.Append(long[:1<<20-47]), api.ErrFull)
	isErr(t, "Append of all that there is room for", l.Append(long[1:1<<20-47]), api.OK)
	m := opened(t, d)
	if got := m.Records(); len(got) != 2 || !bytes.Equal(got[0], long[:1<<20]) || !bytes.Equal(got[1], long[1:1<<20-47]) || m.Room() != -1 {
		t.Error("another log was opened")
	}
	isErr(t, "Compact with one byte more", m.Compact(long), api.ErrFull)
	isErr(t, "Compact with the longest", m.Compact(long[1:]), api.OK)
	if m = opened(t, d); !bytes.Equal(m.Snapshot(), long[1:]) || len(m.Records()) != 0 || m.Gen() != 2 || m.Room() != 1<<20-32 {
		t.Error("another snapshot was opened")
	}
}

// As many records as there is room for: without bytes of their own, they are the most that may be.
func TestP7_1_ManyRecords(t *testing.T) {
	d := disk.New(1 << 17)
	l := opened(t, d)
	for n := 1; n < 1<<12; n++ {
		isErr(t, "Append", l.Append(nil), api.OK)
	}
	isErr(t, "Append", l.Append(nil), api.ErrFull)
	if m := opened(t, d); len(m.Records()) != 1<<12-1 || m.Room() != -1 || has(m) != has(l) {
		t.Errorf("%d records, Room %d", len(m.Records()), m.Room())
	}
}

// Which of the halves holds the log, whatever frames these begin with.
func TestP7_1_WhichHalf(t *testing.T) {
	const size, half = 260, 130
	gens := []uint32{0, 1, 2, 3, 4, 5, 255, 256, 257, 1 << 16, 1<<16 + 1, math.MaxInt32, 1 << 31, 1<<31 + 1, math.MaxUint32 - 1, math.MaxUint32}
	for _, first := range gens {
		for _, second := range gens {
			for number := range uint32(2) {
				one := append(laid(first, 0, []byte("first")), laid(first, 1, []byte("record"))...)
				other := append(laid(second, number, []byte("second")), laid(second, 1, []byte("another"))...)
				do(t, size, write(0, string(one)), write(half, string(other)), sync(), open(), appendTo("more"), compact("next"), appendTo("more"))
				do(t, size, write(half, string(one)), write(0, string(other)), sync(), open(), appendTo("more"), compact("next"), appendTo("more"))
			}
		}
	}
	// Told once without the words' log: the greater one that belongs there, and none that doesn't.
	for _, x := range []struct{ first, second, want uint32 }{
		{2, 1, 2}, {2, 3, 3}, {4, 1, 4}, {2, 2, 2}, {3, 3, 3}, {3, 2, 1}, {0, 0, 1}, {0, 1, 1}, {math.MaxUint32 - 1, math.MaxUint32, math.MaxUint32}, {1 << 31, 1, 1 << 31}, {2, math.MaxUint32, math.MaxUint32},
	} {
		d := onto(size, 0, laid(x.first, 0, []byte("first")))
		d.Write(half, laid(x.second, 0, []byte("second")))
		l := opened(t, d)
		want := "first"
		if x.want%2 == 1 {
			want = "second"
		}
		if x.first%2 == 1 && x.second%2 == 0 || x.first == 0 && x.second == 0 {
			want = ""
		}
		if l.Gen() != x.want || string(l.Snapshot()) != want {
			t.Errorf("%d and %d: %s, not %d %q", x.first, x.second, has(l), x.want, want)
		}
	}
}

// Which of the frames behind the first one are records: those of its generation that follow one another; all bytes behind them are 0 then.
func TestP7_1_WhichRecords(t *testing.T) {
	const size, half = 400, 200
	frames := map[string][]byte{
		"1": laid(3, 1, []byte("one")), "2": laid(3, 2, nil), "3": laid(3, 3, []byte("three")), "0": laid(3, 0, []byte("nought")),
		"1 of 1": laid(1, 1, []byte("old")), "1 of 2": laid(2, 1, []byte("old")), "2 of 5": laid(5, 2, []byte("new")),
		"zeros": make([]byte, 16), "a zero": {0}, "a byte": {7}, "a part": laid(3, 1, []byte("part"))[:19],
	}
	var names []string
	for name := range frames {
		names = append(names, name)
	}
	slices.Sort(names)
	for _, x := range names {
		for _, y := range names {
			for _, z := range names {
				b := slices.Concat(laid(3, 0, []byte("snap")), frames[x], frames[y], frames[z])
				do(t, size, write(half, string(b)), sync(), open(), appendTo("more"), compact("next"))
			}
		}
	}
	b := slices.Concat(laid(3, 0, []byte("snap")), frames["1"], frames["2"], frames["2 of 5"], frames["3"])
	d := onto(size, half, b)
	l := opened(t, d)
	if got := fmt.Sprintf("%s %q %d", l.Snapshot(), l.Records(), l.Room()); got != `snap ["one" ""] 129` {
		t.Error(got)
	}
	copy(b[20+19+16:], make([]byte, 100))
	if got, _ := d.Read(half, half); !bytes.Equal(got, append(b, make([]byte, half-len(b))...)) {
		t.Errorf("behind the records not all is 0: %x", got)
	}
}

// A frame doesn't go on behind its half's end, whatever stands there.
func TestP7_1_HalvesEnd(t *testing.T) {
	for size := 140; size < 144; size++ {
		half := size / 2
		for over := -2; over <= 20; over++ {
			first := laid(2, 0, []byte(text(half+over-16)))
			do(t, size, write(0, string(first)), sync(), open(), appendTo("a"))
			record := string(append(laid(2, 0, []byte("snap")), laid(2, 1, []byte(text(half+over-36)))...))
			do(t, size, write(0, record), sync(), open(), appendTo("a"))
			do(t, size, write(half, string(laid(1, 0, nil))), write(0, record), sync(), open(), compact("b"))
			tail := text(min(size-half, half+over))
			do(t, size, write(half, string(laid(1, 0, []byte("x")))), write(size-len(tail)+17, tail[17:]), sync(), open(), appendTo("a"))
		}
	}
}

// A byte that isn't 0, behind the last record, alone, at each place of the half, and behind it.
func TestP7_1_OneByteBehind(t *testing.T) {
	for size := 140; size < 142; size++ {
		for at := range size {
			for _, c := range []string{"\x01", "\x80", "\xff"} {
				do(t, size, open(), appendTo("one"), write(at, c), sync(), open(), appendTo("two"), open(), compact("s"), write(at, c), sync(), open(), appendTo("two"))
			}
		}
	}
}

// Writing is told as the chapter tells it: so many writes, each of all its bytes, and all of it is sure behind each call.
func TestP7_1_Writes(t *testing.T) {
	const size = 150
	rows := map[string][]call{
		"new":         {open()},
		"dirty":       {write(0, text(size)), sync(), open()},
		"opened":      {open(), appendTo("one"), open()},
		"append":      {open(), appendTo("one"), appendTo(""), appendTo("two")},
		"full":        {open(), appendTo(text(44)), appendTo(text(43)), appendTo(""), compact(text(60)), compact(text(59)), appendTo("")},
		"compact":     {open(), appendTo("one"), compact("snap"), appendTo("two"), compact(""), compact("again")},
		"behind":      {open(), appendTo("one"), write(size/2+40, "x"), sync(), open(), appendTo("two")},
		"other dirty": {open(), appendTo("one"), write(0, text(size/2)), sync(), open(), compact("snap")},
		"waits":       {open(), appendTo("one"), write(size/2+30, "x"), appendTo("two"), write(3, "y"), compact("snap"), write(60, "zz"), open()},
	}
	for _, row := range rows {
		do(t, size, row...)
		for i := range len(row) {
			// Right behind each call all bytes that were told are lost.
			do(t, size, append(row[:i+1:i+1], fall(0), back(), open())...)
			for n := range 5 {
				for _, keep := range []int{0, 1, 2, 15, 16, 17, 18, 19, 20, 21, 74, 75, 76, 1000} {
					// From each call on the fuse burns: the number of writes, and the bytes of each one, are to be seen by where it falls.
					burning := append(append(row[:i:i], fuse(n, keep)), row[i:]...)
					do(t, size, append(burning, appendTo("down"), compact("down"), back(), appendTo("down"), compact("down"))...)
				}
			}
		}
	}
}

// What waits, because somebody else told it, is read as if it were laid down.
func TestP7_1_OpenReadsWhatWaits(t *testing.T) {
	d := disk.New(200)
	d.Write(100, laid(5, 0, []byte("snap")))
	d.Write(120, laid(5, 1, []byte("record")))
	l := opened(t, d)
	if got := fmt.Sprintf("%d %s %s", l.Gen(), l.Snapshot(), l.Records()); got != "5 snap [record]" {
		t.Error(got)
	}
}

// Once the disk fell, the log is of no use any more, whether the disk is back or not, and whoever let it fall; one that is opened anew is.
func TestP7_1_FellSinceItWasOpened(t *testing.T) {
	for name, fall := range map[string]func(*disk.Disk, *wal.Log){
		"by hand":             func(d *disk.Disk, _ *wal.Log) { d.Fall(0) },
		"by hand, all kept":   func(d *disk.Disk, _ *wal.Log) { d.Fall(math.MaxInt) },
		"by hand, twice":      func(d *disk.Disk, _ *wal.Log) { d.Fall(0); d.Back(); d.Fall(0) },
		"with another write":  func(d *disk.Disk, _ *wal.Log) { d.Fuse(0, 0); d.Write(0, nil) },
		"with another log":    func(d *disk.Disk, _ *wal.Log) { m, _ := wal.Open(d); d.Fuse(0, 5); m.Append([]byte("x")) },
		"while it is opened":  func(d *disk.Disk, _ *wal.Log) { d.Write(199, []byte("x")); d.Fuse(0, 5); wal.Open(d) },
		"with Append":         func(d *disk.Disk, l *wal.Log) { d.Fuse(0, 5); l.Append([]byte("x")) },
		"with all of Append":  func(d *disk.Disk, l *wal.Log) { d.Fuse(0, 100); l.Append([]byte("x")) },
		"with Compact":        func(d *disk.Disk, l *wal.Log) { d.Fuse(0, 5); l.Compact([]byte("x")) },
		"with Compact's last": func(d *disk.Disk, l *wal.Log) { d.Fuse(1, 5); l.Compact([]byte("x")) },
	} {
		for _, back := range []bool{false, true} {
			d := disk.New(200)
			l := opened(t, d)
			l.Append([]byte("one"))
			was := has(l)
			fall(d, l)
			if back {
				d.Back()
			}
			before, _ := d.Read(0, 200)
			for _, b := range [][]byte{nil, []byte("two"), make([]byte, 500)} {
				isErr(t, name+": Append", l.Append(b), api.ErrDown)
				isErr(t, name+": Compact", l.Compact(b), api.ErrDown)
			}
			if after, _ := d.Read(0, 200); !bytes.Equal(after, before) {
				t.Errorf("%s: it was written", name)
			}
			if has(l) != was {
				t.Errorf("%s: it has %s, not %s", name, has(l), was)
			}
			d.Back()
			m := opened(t, d)
			isErr(t, name+": the new log's Append", m.Append(nil), api.OK)
			isErr(t, name+": the old log's Append", l.Append(nil), api.ErrDown)
			isErr(t, name+": the new log's Compact", m.Compact(nil), api.OK)
			isErr(t, name+": the old log's Compact", l.Compact(nil), api.ErrDown)
		}
	}
	// A disk that fell ahead of that is as good as any.
	d := disk.New(200)
	d.Fall(0)
	d.Back()
	l := opened(t, d)
	// Nor does it matter that a disk is told to fall, or to be back, with nothing coming of it, or that another one falls.
	d.Fuse(5, 0)
	d.Back()
	disk.New(200).Fall(0)
	isErr(t, "Append", l.Append(nil), api.OK)
	isErr(t, "Compact", l.Compact(nil), api.OK)
}

// Errors are named in order: that the disk fell, that there is no room, that there is no next generation.
func TestP7_1_ErrorsInOrder(t *testing.T) {
	last := uint32(math.MaxUint32)
	d := onto(200, 100, laid(last, 0, []byte("last")))
	l := opened(t, d)
	if l.Gen() != last || l.Room() != 64 {
		t.Fatal(has(l))
	}
	isErr(t, "Append", l.Append(nil), api.OK)
	was, _ := d.Read(0, 200)
	isErr(t, "Compact with too much", l.Compact(make([]byte, 85)), api.ErrFull)
	isErr(t, "Compact with all that there is room for", l.Compact(make([]byte, 84)), api.ErrLimit)
	isErr(t, "Compact", l.Compact(nil), api.ErrLimit)
	isErr(t, "Append of too much", l.Append(make([]byte, 65)), api.ErrFull)
	if is, _ := d.Read(0, 200); !bytes.Equal(is, was) || len(l.Records()) != 1 {
		t.Error("a call that was refused changed something")
	}
	// With a fuse that is all but burnt: a call that is refused writes nothing, so it doesn't fall.
	d.Fuse(0, 0)
	isErr(t, "Compact with too much", l.Compact(make([]byte, 85)), api.ErrFull)
	isErr(t, "Compact", l.Compact(nil), api.ErrLimit)
	isErr(t, "Append of too much", l.Append(make([]byte, 65)), api.ErrFull)
	isErr(t, "Append", l.Append(nil), api.ErrDown)
	isErr(t, "Compact with too much", l.Compact(make([]byte, 85)), api.ErrDown)
	isErr(t, "Append of too much", l.Append(make([]byte, 65)), api.ErrDown)
	// The one ahead of the last generation has a next one.
	l = opened(t, onto(200, 0, laid(last-1, 0, nil)))
	isErr(t, "Compact", l.Compact([]byte("s")), api.OK)
	if l.Gen() != last {
		t.Error(has(l))
	}
	isErr(t, "Compact", l.Compact([]byte("s")), api.ErrLimit)
}

// calls are such as rows are made of, for a disk of 140 bytes.
func calls() []call {
	return []call{
		open(), appendTo("one"), appendTo(""), appendTo(text(38)), compact("snap"), compact(text(54)), compact(text(55)),
		fall(0), back(), fuse(0, 7), fuse(1, 19), fuse(0, 500), write(100, "x"), write(20, "y"), older(),
	}
}

// All rows of four calls behind the opening.
func TestP7_1_ShortRows(t *testing.T) {
	l := calls()
	for _, first := range l {
		for _, second := range l {
			for _, third := range l {
				for _, fourth := range l {
					do(t, 140, open(), first, second, third, fourth)
				}
			}
		}
	}
}

// randomText is a text of so many bytes at most; often some of them are 0.
func randomText(r *rand.Rand, most int) string {
	b := make([]byte, r.Intn(most+1))
	r.Read(b)
	clear(b[r.Intn(len(b)+1):])
	return string(b)
}

// randomCall is a call for a log on a disk of so many bytes.
func randomCall(r *rand.Rand, size int) call {
	switch k := r.Intn(40); {
	case k < 14:
		return appendTo(randomText(r, size/8))
	case k < 16:
		return appendTo(randomText(r, size))
	case k < 20:
		return compact(randomText(r, size/6))
	case k < 21:
		return compact(randomText(r, size))
	case k < 25:
		return fuse(r.Intn(5)-1, r.Intn(size))
	case k < 26:
		return fall(r.Intn(size) - 1)
	case k < 27:
		return older()
	case k < 28:
		s := randomText(r, size/10)
		return write(r.Intn(size-len(s)+1), s)
	case k < 29:
		return sync()
	case k < 34:
		return back()
	}
	return open()
}

func TestP7_1_LongRows(t *testing.T) {
	r := rand.New(rand.NewSource(71))
	for range 1500 {
		size := 128 + r.Intn(300)
		row := []call{open()}
		for range 60 {
			row = append(row, randomCall(r, size))
		}
		do(t, size, row...)
	}
}

// What is handed in stays as it is, and whoever writes into it later changes nothing.
func TestP7_1_WhatIsHandedInIsItsOwn(t *testing.T) {
	d := disk.New(400)
	l := opened(t, d)
	around := []byte("..snap..one..")
	isErr(t, "Compact", l.Compact(around[2:6]), api.OK)
	isErr(t, "Append", l.Append(around[8:11]), api.OK)
	if string(around) != "..snap..one.." {
		t.Errorf("%q was changed", around)
	}
	copy(around, "?????????????")
	for _, l := range []*wal.Log{l, opened(t, d)} {
		if got := fmt.Sprintf("%s %s", l.Snapshot(), l.Records()); got != "snap [one]" {
			t.Error(got)
		}
	}
}

// What is answered is new memory: whoever writes into it changes nothing, and nothing changes it.
func TestP7_1_WhatIsAnsweredIsNew(t *testing.T) {
	d := disk.New(400)
	l := opened(t, d)
	l.Compact([]byte("snap"))
	l.Append([]byte("one"))
	l.Append([]byte("two"))
	for _, l := range []*wal.Log{l, opened(t, d)} {
		snapshot, records := l.Snapshot(), l.Records()
		_ = append(snapshot, "!!!!"...)
		_ = append(records[0], "!!!!"...)
		if string(records[1]) != "two" {
			t.Error("one record hangs on another")
		}
		copy(snapshot, "????")
		copy(records[0], "???")
		_ = append(records, []byte("three"))
		records[1] = nil
		if got := fmt.Sprintf("%s %s", l.Snapshot(), l.Records()); got != "snap [one two]" {
			t.Error(got)
		}
		if got := fmt.Sprintf("%s %s", opened(t, d).Snapshot(), opened(t, d).Records()); got != "snap [one two]" {
			t.Errorf("the disk's: %s", got)
		}
	}
	snapshot, records := l.Snapshot(), l.Records()
	l.Append([]byte("four"))
	l.Compact([]byte("new!"))
	l.Append([]byte("new"))
	if got := fmt.Sprintf("%s %s", snapshot, records); got != "snap [one two]" {
		t.Errorf("what was answered: %s", got)
	}
}

// step is a record that is appended, or a snapshot with which is compacted.
type step struct {
	compact bool
	b       []byte
}

// take takes a step.
func (s step) take(l *wal.Log) api.Errno {
	if s.compact {
		return l.Compact(s.b)
	}
	return l.Append(s.b)
}

// randomSteps are so many steps, for which there is always room on a disk of so many bytes.
func randomSteps(r *rand.Rand, size, n int) []step {
	steps := make([]step, n)
	for i := range steps {
		steps[i] = step{r.Intn(4) == 0, []byte(randomText(r, size/2/(n+1)-16))}
	}
	return steps
}

// kept is what a log has, by its content alone.
func kept(l *wal.Log) string { return fmt.Sprintf("%q %q", l.Snapshot(), l.Records()) }

// keptBehind is what a log has to have behind so many first steps.
func keptBehind(steps []step, n int) string {
	snapshot, records := []byte{}, [][]byte{}
	for _, s := range steps[:n] {
		if s.compact {
			snapshot, records = s.b, nil
		} else {
			records = append(records, s.b)
		}
	}
	return fmt.Sprintf("%q %q", snapshot, records)
}

// takeUntilDown opens a log and takes steps, until one is answered with ErrDown: how many were answered OK, and whether the log was opened.
func takeUntilDown(t *testing.T, d *disk.Disk, steps []step) (int, bool) {
	t.Helper()
	l, e := wal.Open(d)
	if e == api.ErrDown {
		return 0, false
	}
	isErr(t, "Open", e, api.OK)
	for i, s := range steps {
		if e := s.take(l); e != api.OK {
			isErr(t, "a step", e, api.ErrDown)
			return i, true
		}
	}
	return len(steps), true
}

// isKept asks that a log opened anew has what was answered OK, and nothing or the whole of what was under way; that it goes on from there; and that opened once more it has the same. It answers how many steps the log has.
func isKept(t *testing.T, d *disk.Disk, steps []step, done int) int {
	t.Helper()
	l := opened(t, d)
	under := min(done+1, len(steps))
	n := done
	if kept(l) != keptBehind(steps, done) {
		n = under
	}
	if kept(l) != keptBehind(steps, n) {
		t.Fatalf("%v, %d of them done: %s", steps, done, kept(l))
	}
	if again := opened(t, d); has(again) != has(l) {
		t.Fatalf("%v, %d of them done: once more %s, not %s", steps, done, has(again), has(l))
	}
	return n
}

// In all rows of steps, wherever it falls, with each number of bytes.
func TestP7_2_WhatWasSaidStays(t *testing.T) {
	r := rand.New(rand.NewSource(72))
	for range 40 {
		const size = 400
		steps := randomSteps(r, size, 1+r.Intn(5))
		for n := 0; ; n++ {
			fell := false
			for keep := 0; keep <= size/2+1; keep++ {
				d := disk.New(size)
				d.Fuse(n, keep)
				done, ok := takeUntilDown(t, d, steps)
				fell = !d.On()
				if !fell && (!ok || done < len(steps)) {
					t.Fatalf("%v: it didn't fall, but %d were done", steps, done)
				}
				d.Back()
				have := isKept(t, d, steps, done)
				goesOn(t, d, steps, have)
			}
			if !fell {
				break
			}
		}
	}
}

// goesOn asks that a log goes on where it is: with the steps that it doesn't have yet it comes to what they all come to.
func goesOn(t *testing.T, d *disk.Disk, steps []step, have int) {
	t.Helper()
	l := opened(t, d)
	for _, s := range steps[have:] {
		isErr(t, "a step, told again", s.take(l), api.OK)
	}
	if want := keptBehind(steps, len(steps)); kept(l) != want || kept(opened(t, d)) != want {
		t.Fatalf("%v, from %d on: %s, not %s", steps, have, kept(l), want)
	}
}

// Something is under way, and it falls with just so many bytes of that: it isn't done with all bytes but one, and is with all of them.
func TestP7_2_NothingOrTheWhole(t *testing.T) {
	for _, s := range []step{{false, nil}, {false, []byte("a record")}, {true, nil}, {true, []byte("a snapshot")}} {
		frame := 16 + len(s.b)
		for keep := range frame + 5 {
			d := disk.New(200)
			l := opened(t, d)
			steps := []step{{false, []byte("one")}, s}
			isErr(t, "Append", steps[0].take(l), api.OK)
			// Compact's frame is behind its bytes 0.
			if s.compact {
				d.Fuse(1, keep)
			} else {
				d.Fuse(0, keep)
			}
			isErr(t, "under way", s.take(l), api.ErrDown)
			d.Back()
			want := 1
			if keep >= frame {
				want = 2
			}
			if got := kept(opened(t, d)); got != keptBehind(steps, want) {
				t.Errorf("%v with %d bytes: %s", s, keep, got)
			}
		}
	}
}

// It falls again and again, while the log is opened, and in the steps that are told again: all of what was answered stays.
func TestP7_2_FallByFall(t *testing.T) {
	r := rand.New(rand.NewSource(73))
	for range 3000 {
		const size = 500
		steps := randomSteps(r, size, 6)
		d := disk.New(size)
		done := 0
		for range 12 {
			d.Fuse(r.Intn(6), r.Intn(60))
			l, e := wal.Open(d)
			for e == api.OK && done < len(steps) {
				if e = steps[done].take(l); e == api.OK {
					done++
				}
			}
			if r.Intn(3) == 0 {
				d.Fall(r.Intn(60))
			}
			d.Back()
			for range r.Intn(3) {
				d.Fuse(r.Intn(3), r.Intn(200))
				wal.Open(d)
				d.Back()
			}
			done = isKept(t, d, steps, done)
		}
	}
}

// The old half's frames don't come back: neither behind a snapshot nor in its place, wherever a compaction falls.
func TestP7_2_OldFramesDoNotComeBack(t *testing.T) {
	for n := range 3 {
		for keep := range 110 {
			d := disk.New(200)
			l := opened(t, d)
			for _, s := range []string{"a", "b", "c"} {
				isErr(t, "Append", l.Append([]byte(s)), api.OK)
			}
			isErr(t, "Compact", l.Compact([]byte("abc")), api.OK)
			isErr(t, "Append", l.Append([]byte("d")), api.OK)
			d.Fuse(n, keep)
			e := l.Compact([]byte("abcd"))
			d.Back()
			got := kept(opened(t, d))
			was, is := keptOf("abc", "d"), keptOf("abcd")
			if n == 2 && e != api.OK || n < 2 && e != api.ErrDown || got != was && got != is || n == 0 && got != was || n == 2 && got != is {
				t.Errorf("Fuse(%d, %d): %d, %s", n, keep, e, got)
			}
		}
	}
}

// keptOf is what a log has with a snapshot and records.
func keptOf(snapshot string, records ...string) string {
	steps := []step{{true, []byte(snapshot)}}
	for _, s := range records {
		steps = append(steps, step{false, []byte(s)})
	}
	return keptBehind(steps, len(steps))
}

// Whatever lies on a disk, opened anew once more the log has the same, and lies as it lay.
func TestP7_3_TwiceIsOnce(t *testing.T) {
	r := rand.New(rand.NewSource(74))
	for range 20000 {
		size := 128 + r.Intn(200)
		d := disk.New(size)
		for place := range 2 {
			gen := uint32(r.Intn(5))
			var b []byte
			for number := range uint32(r.Intn(4)) {
				b = append(b, laid(gen, number, []byte(randomText(r, 12)))...)
			}
			b = append(b, randomText(r, 30)...)
			d.Write(place*(size/2), b[:min(len(b), size/2)])
		}
		d.Sync()
		first := opened(t, d)
		lay, _ := d.Read(0, size)
		for range 3 {
			if r.Intn(2) == 0 {
				d.Fall(r.Intn(size))
				d.Back()
			}
			again := opened(t, d)
			if lies, _ := d.Read(0, size); has(again) != has(first) || !bytes.Equal(lies, lay) {
				t.Fatalf("%s, not %s, on\n%x, not\n%x", has(again), has(first), lies, lay)
			}
		}
	}
}

// Opening falls, at each write and with each number of bytes: opened anew it comes to what it would have come to at once.
func TestP7_3_OpeningFalls(t *testing.T) {
	const size, half = 200, 100
	torn := slices.Concat(laid(3, 0, []byte("snap")), laid(3, 1, []byte("one")), laid(3, 2, []byte("torn"))[:17])
	for name, b := range map[string][]byte{
		"none": nil, "dirty": []byte(text(half)), "log": laid(3, 0, []byte("snap")), "torn": torn, "dirty behind": append(laid(3, 0, []byte("snap")), text(80)...),
	} {
		want := opened(t, onto(size, half, b))
		for n := range 3 {
			for keep := range half + 2 {
				d := onto(size, half, b)
				d.Fuse(n, keep)
				if l, e := wal.Open(d); e == api.OK && has(l) != has(want) || e != api.OK && (l != nil || e != api.ErrDown) || d.On() != (e == api.OK) {
					t.Fatalf("%s, Fuse(%d, %d): %d", name, n, keep, e)
				}
				d.Back()
				for range 2 {
					if got := has(opened(t, d)); got != has(want) {
						t.Fatalf("%s, Fuse(%d, %d): %s, not %s", name, n, keep, got, has(want))
					}
				}
			}
		}
	}
}
