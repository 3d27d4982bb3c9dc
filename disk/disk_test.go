package disk_test

import (
	"bytes"
	"fmt"
	"math"
	"math/rand"
	"testing"

	"vespers/api"
	"vespers/disk"
)

// The tests hold the calls against a disk that does what the chapter's words say byte by byte: it keeps one row of all bytes that were told and not lost, and works all of its bytes out of that row anew each time.

// extremes are numbers that no call may stumble over.
var extremes = []int{math.MinInt, math.MinInt + 1, math.MinInt32, -api.MaxDisk - 1, -api.MaxDisk, -3, -2, -1, api.MaxDisk - 1, api.MaxDisk, api.MaxDisk + 1, math.MaxInt32, math.MaxInt - 1, math.MaxInt}

// toldByte is a byte for a place.
type toldByte struct {
	at int
	b  byte
}

// byWords is a disk as the chapter tells it.
type byWords struct {
	size       int
	told       []toldByte // all that was told and wasn't lost
	sure       int        // how many of these are laid down
	off        bool
	falls      int
	fused      bool
	fuse, keep int
}

// through are the bytes, with so many first ones of all that were told over them.
func (m *byWords) through(n int) []byte {
	b := make([]byte, m.size)
	for _, t := range m.told[:n] {
		b[t.at] = t.b
	}
	return b
}

func (m *byWords) write(at int, b []byte) api.Errno {
	if m.off {
		return api.ErrDown
	}
	if at < 0 || at > m.size-len(b) {
		return api.ErrRange
	}
	for i, c := range b {
		m.told = append(m.told, toldByte{at + i, c})
	}
	if m.fused && m.fuse == 0 {
		m.fall(m.keep)
		return api.ErrDown
	}
	m.fuse--
	return api.OK
}

func (m *byWords) sync() api.Errno {
	if m.off {
		return api.ErrDown
	}
	m.sure = len(m.told)
	return api.OK
}

func (m *byWords) read(at, n int) ([]byte, api.Errno) {
	if m.off {
		return nil, api.ErrDown
	}
	if n < 0 || at < 0 || at > m.size-n {
		return nil, api.ErrRange
	}
	return m.through(len(m.told))[at : at+n], api.OK
}

func (m *byWords) fall(keep int) {
	if m.off {
		return
	}
	for keep > 0 && m.sure < len(m.told) {
		m.sure++
		keep--
	}
	m.told = m.told[:m.sure]
	m.off = true
	m.falls++
}

func (m *byWords) setFuse(n, keep int) { m.fused, m.fuse, m.keep = n >= 0, n, keep }

func (m *byWords) back() { m.off, m.fused = false, false }

// both are a disk, and what the chapter says of it.
type both struct {
	d *disk.Disk
	m *byWords
}

func newBoth(size int) both { return both{disk.New(size), &byWords{size: size}} }

// call is one call, of both disks; it tells what is wrong, if anything is.
type call struct {
	name string
	do   func(both) string
}

// differs tells two errors that differ.
func differs(got, want api.Errno) string {
	if got == want {
		return ""
	}
	return fmt.Sprintf("%d, not %d", got, want)
}

func write(at int, s string) call {
	return call{fmt.Sprintf("Write(%d, %q)", at, s), func(b both) string {
		return differs(b.d.Write(at, []byte(s)), b.m.write(at, []byte(s)))
	}}
}

func sync() call {
	return call{"Sync()", func(b both) string { return differs(b.d.Sync(), b.m.sync()) }}
}

func read(at, n int) call {
	return call{fmt.Sprintf("Read(%d, %d)", at, n), func(b both) string {
		got, e := b.d.Read(at, n)
		want, eWant := b.m.read(at, n)
		if e != eWant || !bytes.Equal(got, want) || e != api.OK && got != nil {
			return fmt.Sprintf("%q %d, not %q %d", got, e, want, eWant)
		}
		return ""
	}}
}

func fall(keep int) call {
	return call{fmt.Sprintf("Fall(%d)", keep), func(b both) string {
		b.d.Fall(keep)
		b.m.fall(keep)
		return ""
	}}
}

func fuse(n, keep int) call {
	return call{fmt.Sprintf("Fuse(%d, %d)", n, keep), func(b both) string {
		b.d.Fuse(n, keep)
		b.m.setFuse(n, keep)
		return ""
	}}
}

func back() call {
	return call{"Back()", func(b both) string {
		b.d.Back()
		b.m.back()
		return ""
	}}
}

// do does a row of calls, and after each one asks for what may be asked for without a change.
func do(t *testing.T, size int, row ...call) {
	t.Helper()
	b := newBoth(size)
	told := ""
	for _, c := range row {
		told += " " + c.name
		wrong := c.do(b)
		if wrong == "" {
			wrong = standsOtherwise(b)
		}
		if wrong != "" {
			t.Fatalf("of %d bytes:%s: %s", size, told, wrong)
		}
	}
}

// standsOtherwise tells what of a disk as it stands is wrong, if anything is.
func standsOtherwise(b both) string {
	if got := b.d.Size(); got != b.m.size {
		return fmt.Sprintf("Size %d", got)
	}
	if b.d.On() == b.m.off {
		return fmt.Sprintf("On %v", b.d.On())
	}
	if got := b.d.Falls(); got != b.m.falls {
		return fmt.Sprintf("Falls %d, not %d", got, b.m.falls)
	}
	return read(0, b.m.size).do(b)
}

func TestP5_1_ExampleOfTheChapter(t *testing.T) {
	d := disk.New(2)
	if d.Write(0, []byte("ab")) != api.OK {
		t.Fatal("Write")
	}
	d.Fall(1)
	d.Back()
	if b, e := d.Read(0, 2); string(b) != "a\x00" || e != api.OK {
		t.Errorf("%q %d", b, e)
	}
}

func TestP5_1_New(t *testing.T) {
	for size, want := range map[int]int{
		math.MinInt: 0, -api.MaxDisk: 0, -1: 0, 0: 0, 1: 1, 2: 2, 199: 199, 1<<22 - 1: 1<<22 - 1, 1 << 22: 1 << 22, 1<<22 + 1: 1 << 22, math.MaxInt32: 1 << 22, math.MaxInt: 1 << 22,
	} {
		d := disk.New(size)
		if d.Size() != want || !d.On() {
			t.Errorf("New(%d): of %d bytes, on %v", size, d.Size(), d.On())
		}
		b, e := d.Read(0, want)
		if e != api.OK || !bytes.Equal(b, make([]byte, want)) {
			t.Errorf("New(%d): not all of its bytes are 0, or %d", size, e)
		}
		if _, e := d.Read(0, want+1); e != api.ErrRange {
			t.Errorf("New(%d): more bytes than %d: %d", size, want, e)
		}
	}
}

// A new disk has no fuse.
func TestP5_1_NewHasNoFuse(t *testing.T) {
	d := disk.New(4)
	for i := range 1000 {
		if e := d.Write(i%4, []byte{byte(i)}); e != api.OK || !d.On() {
			t.Fatalf("write %d: %d", i, e)
		}
	}
}

func TestP5_1_Nil(t *testing.T) {
	var d *disk.Disk
	for range 2 {
		if d.Size() != 0 || d.On() || d.Falls() != 0 {
			t.Error("it has bytes, or is on, or fell")
		}
		for _, e := range []api.Errno{d.Write(0, nil), d.Write(0, []byte("a")), d.Write(-1, nil), d.Sync()} {
			if e != api.ErrDown {
				t.Error(e)
			}
		}
		for _, n := range append(extremes, 0) {
			if b, e := d.Read(0, n); b != nil || e != api.ErrDown {
				t.Errorf("Read(0, %d): %q %d", n, b, e)
			}
			d.Fall(n)
			d.Fuse(n, n)
		}
		// It stays as it is, whatever it is told.
		d.Back()
	}
}

// Places at all edges, of a disk with bytes that wait and of one without.
func TestP5_1_Range(t *testing.T) {
	for size := range 6 {
		places := append([]int{0, 1, 2, 3, 4, 5, 6, 7}, extremes...)
		for _, at := range places {
			for n := range 8 {
				do(t, size, write(at, "abcdefg"[:n]), sync(), write(at, "ABCDEFG"[:n]))
			}
			for _, n := range places {
				do(t, size, write(0, "abcdefg"[:size]), read(at, n), sync(), read(at, n), fall(0), read(at, n), back(), read(at, n))
			}
		}
	}
}

func TestP5_1_RangeOfTheGreatestDisk(t *testing.T) {
	d := disk.New(api.MaxDisk)
	long := make([]byte, api.MaxDisk+1)
	for _, x := range []struct {
		at, n int
		want  api.Errno
	}{
		{0, api.MaxDisk, api.OK}, {0, api.MaxDisk + 1, api.ErrRange}, {1, api.MaxDisk, api.ErrRange}, {1, api.MaxDisk - 1, api.OK},
		{api.MaxDisk, 0, api.OK}, {api.MaxDisk + 1, 0, api.ErrRange}, {api.MaxDisk - 1, 1, api.OK}, {api.MaxDisk, 1, api.ErrRange}, {-1, 1, api.ErrRange}, {math.MaxInt, 1, api.ErrRange}, {math.MinInt, 1, api.ErrRange},
	} {
		if e := d.Write(x.at, long[:x.n]); e != x.want {
			t.Errorf("Write(%d, %d bytes): %d", x.at, x.n, e)
		}
		b, e := d.Read(x.at, x.n)
		if e != x.want || e == api.OK && len(b) != x.n {
			t.Errorf("Read(%d, %d): %d bytes, %d", x.at, x.n, len(b), e)
		}
	}
}

// ErrDown is named ahead of ErrRange.
func TestP5_1_DownIsFirst(t *testing.T) {
	d := disk.New(3)
	d.Fall(0)
	for _, n := range extremes {
		if e := d.Write(n, []byte("a")); e != api.ErrDown {
			t.Errorf("Write(%d): %d", n, e)
		}
		if b, e := d.Read(n, n); b != nil || e != api.ErrDown {
			t.Errorf("Read(%d, %d): %q %d", n, n, b, e)
		}
	}
	if d.Write(0, []byte("abcd")) != api.ErrDown || d.Sync() != api.ErrDown || d.Size() != 3 {
		t.Error("it is off, with three bytes")
	}
	// What was told to a disk that is off doesn't wait for it to be back.
	d.Back()
	if b, e := d.Read(0, 3); string(b) != "\x00\x00\x00" || e != api.OK {
		t.Errorf("%q %d", b, e)
	}
}

// Every part of a disk is read, with writes that wait over each other, laid down in part, and told in both orders.
func TestP5_1_ReadWithThoseThatWait(t *testing.T) {
	const size = 7
	rows := [][]call{
		{write(0, "abcdefg")},
		{write(0, "abcdefg"), sync(), write(2, "xyz")},
		{write(0, "abcdefg"), sync(), write(2, "xyz"), write(3, "12345"), write(3, "1234")},
		{write(3, "1234"), write(2, "xyz"), write(0, "a"), write(6, "Z")},
		{write(2, "xyz"), write(3, "1234"), sync(), write(3, "q"), write(7, ""), write(0, "")},
		{write(4, "abc"), write(0, "abc"), write(2, "def"), sync(), fall(0), back(), write(5, "no")},
		{write(0, "abcdefg"), write(0, "\x00\x00"), write(5, "\x00\x00")},
	}
	for _, row := range rows {
		for at := -1; at <= size+1; at++ {
			for n := -1; n <= size+1; n++ {
				do(t, size, append(row[:len(row):len(row)], read(at, n), sync(), read(at, n))...)
			}
		}
	}
}

func TestP5_1_Fall(t *testing.T) {
	for _, keep := range append([]int{0, 1, 2, 3, 4, 5, 6, 7, 8, 9, 10}, extremes...) {
		// Of the bytes that wait, not of the writes, and not of those that were made sure of, so many are laid down.
		do(t, 8, write(0, "abcdefgh"), sync(), write(5, "123"), write(8, ""), write(4, "45"), write(0, "6789"), fall(keep), back(), fall(9), back())
		// A second fall of a disk that is off does nothing.
		do(t, 4, write(0, "abcd"), fall(keep), fall(9), fall(-1), back(), fall(keep), back())
		do(t, 4, fall(keep), back())
		do(t, 0, write(0, ""), fall(keep), back())
	}
}

func TestP5_1_Fuse(t *testing.T) {
	for n := range 5 {
		for _, keep := range append([]int{0, 1, 2, 3, 4, 5, 6, 7, 8, 9}, extremes...) {
			do(t, 4, fuse(n, keep), write(0, "ab"), write(1, "cd"), write(2, "ef"), write(3, "g"), write(0, "h"), back(), write(0, "i"), write(1, "j"))
			// What is made sure of on the way isn't among the bytes that wait, but among the writes that were told.
			do(t, 4, write(0, "zz"), fuse(n, keep), write(0, "ab"), sync(), write(1, "cd"), write(2, "ef"), sync(), write(3, "g"), back(), write(0, "i"))
		}
	}
}

// Only a write that waits is counted: one of no bytes is, one that is refused isn't.
func TestP5_1_FuseCountsWritesThatWait(t *testing.T) {
	d := disk.New(4)
	d.Fuse(2, 1)
	for range 5 {
		if e := d.Write(4, []byte("a")); e != api.ErrRange || !d.On() {
			t.Fatalf("refused: %d, on %v", e, d.On())
		}
		d.Read(0, 4)
		d.Read(-1, 4)
		d.Sync()
	}
	if d.Write(4, nil) != api.OK || d.Write(0, []byte{}) != api.OK || !d.On() {
		t.Fatal("two writes of no bytes")
	}
	// The disk falls with a write of no bytes, too, and not with one that is refused.
	if d.Write(0, []byte("abcde")) != api.ErrRange || !d.On() {
		t.Fatal("refused, where the disk falls with the next one")
	}
	if d.Write(1, nil) != api.ErrDown || d.On() {
		t.Fatal("the write behind two more")
	}
	do(t, 4, fuse(1, 3), write(9, "a"), write(0, ""), write(-1, ""), write(0, "ab"), back())
	do(t, 4, write(0, "ab"), fuse(0, 1), write(3, "no"), write(4, ""), back())
}

func TestP5_1_FuseInPlaceOfAnother(t *testing.T) {
	for _, n := range extremes {
		// Below 0 it has none; else one that is too long to burn down here.
		do(t, 4, fuse(0, 0), fuse(n, 4), write(0, "a"), write(1, "b"), write(2, "c"), fall(2), back())
		do(t, 4, fuse(n, 4), fuse(1, 1), write(0, "a"), write(1, "b"), write(2, "c"), back())
		do(t, 4, fuse(n, n), fuse(0, n), write(0, "abc"), write(1, "b"), back())
	}
	// The new one counts from where it is told, and has a number of its own.
	do(t, 4, fuse(2, 4), write(0, "a"), fuse(2, 1), write(1, "b"), write(2, "c"), write(3, "d"), back())
	do(t, 4, fuse(0, 4), fuse(0, 0), write(0, "a"), back())
}

func TestP5_1_Back(t *testing.T) {
	// It takes the fuse, of a disk that is on, too; what waits goes on to wait there.
	do(t, 4, fuse(0, 4), back(), write(0, "ab"), write(1, "c"), fall(1), back())
	do(t, 4, write(0, "ab"), back(), back(), fall(1), back())
	do(t, 4, write(0, "ab"), back(), sync(), fall(0), back())
	// It takes one that was told to a disk that is off, and one that was on its way when it fell.
	do(t, 4, fall(0), fuse(0, 4), write(0, "a"), back(), write(0, "b"), sync())
	do(t, 4, fuse(1, 4), write(0, "a"), fall(0), back(), write(0, "b"), write(1, "c"), write(2, "d"))
	do(t, 4, fuse(0, 1), write(0, "ab"), back(), write(0, "cd"), sync(), write(0, "ef"))
}

// calls are such as rows are made of, for a disk of three bytes.
func calls() []call {
	return []call{
		write(0, "abc"), write(1, "de"), write(0, "f"), write(2, "g"), write(3, ""), write(2, "hi"), write(-1, "j"),
		sync(), fall(-1), fall(0), fall(1), fall(2), fall(4), fuse(-1, 2), fuse(0, 1), fuse(0, -7), fuse(1, 3), fuse(2, 0), back(), read(1, 2),
	}
}

// All rows of four calls.
func TestP5_1_ShortRows(t *testing.T) {
	l := calls()
	for _, first := range l {
		for _, second := range l {
			for _, third := range l {
				for _, fourth := range l {
					do(t, 3, first, second, third, fourth, back())
				}
			}
		}
	}
}

// randomText is a text of so many bytes at most.
func randomText(r *rand.Rand, most int) string {
	b := make([]byte, r.Intn(most+1))
	r.Read(b)
	return string(b)
}

// randomCall is a call for a disk of so many bytes, mostly one that isn't refused.
func randomCall(r *rand.Rand, size int) call {
	switch k := r.Intn(40); {
	case k < 20:
		s := randomText(r, size/2)
		return write(r.Intn(size-len(s)+1), s)
	case k < 22:
		return write(r.Intn(2*size)-size/2, randomText(r, size+1))
	case k < 26:
		return sync()
	case k < 32:
		return read(r.Intn(size+4)-2, r.Intn(size+4)-2)
	case k < 34:
		return fall(r.Intn(3*size) - 2)
	case k < 36:
		return fuse(r.Intn(6)-1, r.Intn(3*size)-2)
	}
	return back()
}

func TestP5_1_LongRows(t *testing.T) {
	r := rand.New(rand.NewSource(5))
	for range 400 {
		size := 1 + r.Intn(40)
		row := make([]call, 150)
		for i := range row {
			row[i] = randomCall(r, size)
		}
		do(t, size, row...)
	}
}

// What is handed in stays as it is, and whoever writes into it later changes nothing.
func TestP5_1_WhatIsHandedInIsItsOwn(t *testing.T) {
	d := disk.New(6)
	around := []byte("..abcd..")
	part := around[2:6]
	d.Write(1, part)
	if string(around) != "..abcd.." {
		t.Errorf("%q was changed", around)
	}
	copy(part, "wxyz")
	want := "\x00abcd\x00"
	if b, _ := d.Read(0, 6); string(b) != want {
		t.Errorf("%q, as long as it waits", b)
	}
	d.Sync()
	copy(part, "WXYZ")
	if b, _ := d.Read(0, 6); string(b) != want {
		t.Errorf("%q, once it is sure", b)
	}
	// Nor does the disk write into what it was handed, when it falls or is written on.
	d.Write(0, part)
	d.Write(1, []byte("12"))
	d.Fall(2)
	d.Back()
	d.Write(0, []byte("345678"))
	if string(around) != "..WXYZ.." {
		t.Errorf("%q was changed", around)
	}
}

// What is answered is new memory: nothing reaches the disk by it, and nothing of the disk reaches it.
func TestP5_1_WhatIsAnsweredIsNew(t *testing.T) {
	d := disk.New(6)
	d.Write(0, []byte("abcdef"))
	d.Sync()
	d.Write(2, []byte("XY"))
	part, _ := d.Read(1, 4)
	part = append(part, "more"...)
	copy(part, "????????")
	first, _ := d.Read(0, 6)
	second, _ := d.Read(0, 6)
	if string(first) != "abXYef" || string(second) != "abXYef" {
		t.Errorf("%q, %q", first, second)
	}
	copy(first, "!!!!!!")
	d.Write(0, []byte("######"))
	d.Sync()
	if string(second) != "abXYef" {
		t.Errorf("%q", second)
	}
}

// Disks have nothing with each other.
func TestP5_1_OneDiskIsNoOther(t *testing.T) {
	a, b := disk.New(3), disk.New(3)
	a.Write(0, []byte("abc"))
	a.Sync()
	a.Fuse(0, 0)
	if got, e := b.Read(0, 3); string(got) != "\x00\x00\x00" || e != api.OK {
		t.Errorf("%q %d", got, e)
	}
	if b.Write(0, []byte("x")) != api.OK || !b.On() || a.Write(0, nil) != api.ErrDown || !b.On() {
		t.Error("another one's fuse")
	}
}

// step is a write of a text, or, with sure, that all that waits is made sure of.
type step struct {
	sure bool
	at   int
	s    string
}

// randomSteps are writes to a disk of so many bytes, which are made sure of now and then.
func randomSteps(r *rand.Rand, size int) []step {
	steps := make([]step, r.Intn(10))
	for i := range steps {
		if r.Intn(4) == 0 {
			steps[i].sure = true
			continue
		}
		s := randomText(r, size)
		steps[i] = step{at: r.Intn(size - len(s) + 1), s: s}
	}
	return steps
}

// tell does steps, one by one.
func tell(d *disk.Disk, steps []step) {
	for _, x := range steps {
		if x.sure {
			d.Sync()
		} else {
			d.Write(x.at, []byte(x.s))
		}
	}
}

// toldBy are all bytes that steps tell, and how many of these they make sure of.
func toldBy(steps []step) (told []toldByte, sure int) {
	for _, x := range steps {
		for i := range len(x.s) {
			told = append(told, toldByte{x.at + i, x.s[i]})
		}
		if x.sure {
			sure = len(told)
		}
	}
	return told, sure
}

// throughWrite are the first steps, through the write behind n more; false, if there is no such write.
func throughWrite(steps []step, n int) ([]step, bool) {
	for i, x := range steps {
		if x.sure {
			continue
		}
		if n == 0 {
			return steps[:i+1], true
		}
		n--
	}
	return nil, false
}

// bytesOf are all bytes of a disk, which is put on for that.
func bytesOf(t *testing.T, d *disk.Disk) []byte {
	t.Helper()
	d.Back()
	b, e := d.Read(0, d.Size())
	if e != api.OK {
		t.Fatal(e)
	}
	return b
}

// Of all steps, with each number of bytes, what stays are some first bytes of all that was told: all that was made sure of, and so many more.
func TestP5_2_WhatWasMadeSureStays(t *testing.T) {
	r := rand.New(rand.NewSource(52))
	for range 3000 {
		size := 1 + r.Intn(12)
		steps := randomSteps(r, size)
		told, sure := toldBy(steps)
		m := byWords{size: size, told: told}
		for keep := -2; keep <= len(told)-sure+2; keep++ {
			d := disk.New(size)
			tell(d, steps)
			d.Fall(keep)
			got := bytesOf(t, d)
			if want := m.through(min(sure+max(keep, 0), len(told))); !bytes.Equal(got, want) {
				t.Fatalf("of %d bytes, %v, Fall(%d): %q, not %q", size, steps, keep, got, want)
			}
			// What was laid down when it fell is sure; nothing of what was lost comes again.
			d.Fall(math.MaxInt)
			if again := bytesOf(t, d); !bytes.Equal(again, got) {
				t.Fatalf("of %d bytes, %v, Fall(%d), and once more: %q, not %q", size, steps, keep, again, got)
			}
		}
	}
}

// Likewise, when a fuse lets it fall among the steps: the bytes of the write that it falls with wait then, those of the steps behind it are never told.
func TestP5_2_WhateverFuseItHas(t *testing.T) {
	r := rand.New(rand.NewSource(53))
	for range 1500 {
		size := 1 + r.Intn(12)
		steps := randomSteps(r, size)
		for n := range 10 {
			keep := r.Intn(2*size) - 1
			d := disk.New(size)
			d.Fuse(n, keep)
			tell(d, steps)
			through, falls := throughWrite(steps, n)
			if d.On() == falls {
				t.Fatalf("%v, Fuse(%d, %d): on %v", steps, n, keep, d.On())
			}
			if !falls {
				continue
			}
			told, sure := toldBy(through)
			m := byWords{size: size, told: told}
			got, want := bytesOf(t, d), m.through(min(sure+max(keep, 0), len(told)))
			if !bytes.Equal(got, want) {
				t.Fatalf("of %d bytes, %v, Fuse(%d, %d): %q, not %q", size, steps, n, keep, got, want)
			}
		}
	}
}

// Several falls, one behind the other: what one left is sure for all that come behind it.
func TestP5_2_FallByFall(t *testing.T) {
	r := rand.New(rand.NewSource(54))
	for range 500 {
		const size = 9
		d := disk.New(size)
		stays := make([]byte, size)
		for range 20 {
			s := randomText(r, size)
			at := r.Intn(size - len(s) + 1)
			keep := r.Intn(size + 1)
			d.Write(at, []byte(s))
			if r.Intn(3) == 0 {
				d.Sync()
				copy(stays[at:], s)
			} else {
				copy(stays[at:], s[:min(keep, len(s))])
			}
			d.Fall(keep)
			if got := bytesOf(t, d); !bytes.Equal(got, stays) {
				t.Fatalf("Write(%d, %q), Fall(%d): %q, not %q", at, s, keep, got, stays)
			}
		}
	}
}
