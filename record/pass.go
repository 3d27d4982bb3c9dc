package record

import "vespers/pack"

// pass goes through a thing in the order of its bytes, and either writes what is there, or reads what is to be there. So each thing is told once, for both: by a function that takes what is there (nothing, ahead of reading), and answers what is read. Calls within one expression are made from left to right, so the order in which a function names a thing's parts is that of their bytes.
type pass struct {
	writer *pack.Writer
	reader *pack.Reader // nil, if it writes
	wrong  bool         // whether there is something that isn't read, beside what makes a reader bad
}

// put are the bytes of a thing; false, if it isn't read from them as it is.
func put[T any](x T, most int, tell func(*pass, T) T, same func(a, b T) bool) ([]byte, bool) {
	p := &pass{writer: pack.NewWriter()}
	tell(p, x)
	if p.wrong {
		return nil, false
	}
	b := p.writer.Bytes()
	if read, ok := get(b, most, tell); !ok || !same(read, x) {
		return nil, false
	}
	return b, true
}

// get is the thing of at most so many bytes; false, if they are those of none.
func get[T any](b []byte, most int, tell func(*pass, T) T) (T, bool) {
	var none T
	if len(b) > most {
		return none, false
	}
	p := &pass{reader: pack.NewReader(b)}
	x := tell(p, none)
	if p.wrong || !p.reader.End() {
		return none, false
	}
	return x, true
}

// told writes what is there, or reads what is to be there.
func told[T any](p *pass, x T, write func(T), read func() T) T {
	if p.reader != nil {
		return read()
	}
	write(x)
	return x
}

// number tells a number that is at most a most.
func number[T ~int | ~uint32 | ~uint64](p *pass, n, most T) T {
	// What is below 0 is written as a number that is above each most of its kind.
	return T(told(p, uint64(n), p.writer.Number, func() uint64 { return p.reader.Number(uint64(most)) }))
}

// signed tells a signed number.
func (p *pass) signed(n int64) int64 { return told(p, n, p.writer.Signed, p.reader.Signed) }

// within tells a signed number that is at most so far from 0.
func (p *pass) within(n, far int) int {
	x := p.signed(int64(n))
	p.must(x >= -int64(far) && x <= int64(far))
	return int(x)
}

// flag tells a flag.
func (p *pass) flag(is bool) bool { return told(p, is, p.writer.Flag, p.reader.Flag) }

// text tells a text of at most so many bytes.
func (p *pass) text(s string, most int) string {
	return told(p, s, p.writer.Text, func() string { return p.reader.Text(most) })
}

// row tells a row of at most so many things, each by a function.
func row[T any](p *pass, things []T, most int, each func(T) T) []T {
	if len(things) > most {
		// It isn't read, so what stands in it needn't be gone through, however much that is.
		p.wrong = true
		return nil
	}
	var gone []T
	for i := range number(p, len(things), most) {
		var thing T
		if i < len(things) {
			thing = things[i]
		}
		gone = append(gone, each(thing))
	}
	return gone
}

// must says that something isn't read, unless it is so.
func (p *pass) must(is bool) {
	if !is {
		p.wrong = true
	}
}
