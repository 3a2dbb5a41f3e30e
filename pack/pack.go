// Package pack is layer 1: see shared/doc/01-pack.md.
package pack

import (
	"strings"

	"witan/api"
)

// How many bytes each thing takes; a text's length is a Word.
const (
	byteSize = 1
	wordSize = 2
	longSize = 4
	bitsSize = 8
	maxText  = 1<<(8*wordSize) - 1
)

// letters are those that a shape may have.
const letters = "bwlqt"

// Writer writes numbers and texts.
type Writer struct {
	limit int
	bytes []byte
	err   api.Errno
}

// Reader reads them.
type Reader struct {
	rest  string
	short bool
}

// Value is a thing that was read.
type Value struct {
	N    int
	Bits uint64
	S    string
}

// tooShort is what a scan gives up with. It is a type of its own, so that Scan takes no other panic for a text that ends too early.
type tooShort struct{}

// New makes a writer of at most limit bytes.
func New(limit int) *Writer { return &Writer{limit: max(limit, 0)} }

// Byte writes a number of one byte.
func (w *Writer) Byte(n int) { w.number(n, byteSize) }

// Word writes a number of two bytes.
func (w *Writer) Word(n int) { w.number(n, wordSize) }

// Long writes a number of four bytes.
func (w *Writer) Long(n int) { w.number(n, longSize) }

// Bits writes any number of eight bytes.
func (w *Writer) Bits(n uint64) {
	if w.admits(true, bitsSize) {
		w.put(n, bitsSize)
	}
}

// Text writes a text's length and its bytes.
func (w *Writer) Text(s string) {
	if w.admits(len(s) <= maxText, wordSize+len(s)) {
		w.put(uint64(len(s)), wordSize)
		w.bytes = append(w.bytes, s...)
	}
}

// Len tells how many bytes were written.
func (w *Writer) Len() int {
	if w == nil {
		return 0
	}
	return len(w.bytes)
}

// Done answers all that was written, or the first error.
func (w *Writer) Done() (string, api.Errno) {
	if w == nil {
		return "", api.ErrArg
	}
	if w.err != api.OK {
		return "", w.err
	}
	return string(w.bytes), api.OK
}

func (w *Writer) number(n, size int) {
	inRange := n >= 0 && uint64(n)>>(8*size) == 0
	if w.admits(inRange, size) {
		w.put(uint64(n), size)
	}
}

// admits tells if a thing of that size may be written whole. It is asked ahead of the first byte, so that nothing is written by halves; an error stays, so that nothing is written behind it.
func (w *Writer) admits(inRange bool, size int) bool {
	if w == nil || w.err != api.OK {
		return false
	}
	if !inRange {
		w.err = api.ErrField
	} else if size > w.limit-len(w.bytes) {
		w.err = api.ErrLong
	}
	return w.err == api.OK
}

func (w *Writer) put(n uint64, size int) {
	for i := size - 1; i >= 0; i-- {
		w.bytes = append(w.bytes, byte(n>>(8*i)))
	}
}

// Read makes a reader at the text's beginning.
func Read(text string) *Reader { return &Reader{rest: text} }

// Byte reads a number of one byte.
func (r *Reader) Byte() int { return int(r.number(byteSize)) }

// Word reads a number of two bytes.
func (r *Reader) Word() int { return int(r.number(wordSize)) }

// Long reads a number of four bytes.
func (r *Reader) Long() int { return int(r.number(longSize)) }

// Bits reads a number of eight bytes.
func (r *Reader) Bits() uint64 { return r.number(bitsSize) }

// Text reads a text. One whose length can be read but not its bytes is left with its length.
func (r *Reader) Text() string {
	if !r.has(wordSize) {
		return ""
	}
	size := wordSize + int(value(r.rest[:wordSize]))
	if !r.has(size) {
		return ""
	}
	// A copy: whoever keeps what was read doesn't keep the whole text by it.
	return string([]byte(r.take(size)[wordSize:]))
}

// Left tells how many bytes are left.
func (r *Reader) Left() int {
	if r == nil {
		return 0
	}
	return len(r.rest)
}

// End tells if all was read, and nothing is left.
func (r *Reader) End() api.Errno {
	switch {
	case r == nil:
		return api.ErrArg
	case r.short:
		return api.ErrShort
	case len(r.rest) > 0:
		return api.ErrBytes
	}
	return api.OK
}

func (r *Reader) number(size int) uint64 {
	if !r.has(size) {
		return 0
	}
	return value(r.take(size))
}

// has tells if size bytes can be read. Once there were too few, nothing more is read, even if it is shorter.
func (r *Reader) has(size int) bool {
	if r == nil {
		return false
	}
	if size > len(r.rest) {
		r.short = true
	}
	return !r.short
}

func (r *Reader) take(size int) string {
	taken := r.rest[:size]
	r.rest = r.rest[size:]
	return taken
}

func value(bytes string) uint64 {
	var n uint64
	for i := range len(bytes) {
		n = n<<8 | uint64(bytes[i])
	}
	return n
}

// Scan reads what stands in the text by the shape's letters.
func Scan(shape, text string) (values []Value, err api.Errno) {
	// Ahead of all reading: another letter counts before a text that is too short, wherever it stands.
	if !rightShape(shape) {
		return nil, api.ErrArg
	}
	defer func() {
		if p := recover(); p != nil {
			if _, ok := p.(tooShort); !ok {
				panic(p)
			}
			values, err = nil, api.ErrShort
		}
	}()
	r := Read(text)
	for i := range len(shape) {
		values = append(values, r.next(shape[i]))
	}
	if r.Left() > 0 {
		return nil, api.ErrBytes
	}
	return values, api.OK
}

func rightShape(shape string) bool {
	for i := range len(shape) {
		if strings.IndexByte(letters, shape[i]) < 0 {
			return false
		}
	}
	return true
}

// next reads the thing of that letter, and gives up by a panic if there are too few bytes.
func (r *Reader) next(letter byte) Value {
	var v Value
	switch letter {
	case 'b':
		v.N = r.Byte()
	case 'w':
		v.N = r.Word()
	case 'l':
		v.N = r.Long()
	case 'q':
		v.Bits = r.Bits()
	case 't':
		v.S = r.Text()
	}
	if r.short {
		panic(tooShort{})
	}
	return v
}
