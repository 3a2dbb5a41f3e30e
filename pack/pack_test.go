package pack_test

import (
	"encoding/binary"
	"math"
	"slices"
	"strings"
	"testing"

	"witan/api"
	"witan/pack"
)

// thing is what one call writes: by the letters of a shape.
type thing struct {
	letter byte
	value  pack.Value
}

func number(letter byte, n int) thing { return thing{letter, pack.Value{N: n}} }

func bits(n uint64) thing { return thing{'q', pack.Value{Bits: n}} }

func text(s string) thing { return thing{'t', pack.Value{S: s}} }

func write(w *pack.Writer, x thing) {
	switch x.letter {
	case 'b':
		w.Byte(x.value.N)
	case 'w':
		w.Word(x.value.N)
	case 'l':
		w.Long(x.value.N)
	case 'q':
		w.Bits(x.value.Bits)
	case 't':
		w.Text(x.value.S)
	}
}

func read(r *pack.Reader, letter byte) pack.Value {
	switch letter {
	case 'b':
		return pack.Value{N: r.Byte()}
	case 'w':
		return pack.Value{N: r.Word()}
	case 'l':
		return pack.Value{N: r.Long()}
	case 'q':
		return pack.Value{Bits: r.Bits()}
	}
	return pack.Value{S: r.Text()}
}

// bytesOf is the chapter's rule once more, by other means: the bytes of a thing, and false if it is out of its range.
func bytesOf(x thing) (string, bool) {
	n := x.value.N
	switch x.letter {
	case 'b':
		return string([]byte{byte(n)}), n >= 0 && n <= 255
	case 'w':
		return string(binary.BigEndian.AppendUint16(nil, uint16(n))), n >= 0 && n <= 65535
	case 'l':
		return string(binary.BigEndian.AppendUint32(nil, uint32(n))), n >= 0 && n <= 4294967295
	case 'q':
		return string(binary.BigEndian.AppendUint64(nil, x.value.Bits)), true
	}
	length := binary.BigEndian.AppendUint16(nil, uint16(len(x.value.S)))
	return string(length) + x.value.S, len(x.value.S) <= 65535
}

// expected is what a writer of that limit has behind these things.
func expected(limit int, things []thing) (string, api.Errno) {
	all := ""
	for _, x := range things {
		s, inRange := bytesOf(x)
		if !inRange {
			return all, api.ErrField
		}
		if len(all)+len(s) > max(limit, 0) {
			return all, api.ErrLong
		}
		all += s
	}
	return all, api.OK
}

// rows goes through all rows of at most most elements of the pool.
func rows[T any](pool []T, most int, visit func([]T)) {
	var grow func(row []T)
	grow = func(row []T) {
		visit(row)
		if len(row) == most {
			return
		}
		for _, x := range pool {
			grow(append(slices.Clone(row), x))
		}
	}
	grow(nil)
}

func checkDone(t *testing.T, what string, w *pack.Writer, s string, e api.Errno) {
	t.Helper()
	want := s
	if e != api.OK {
		want = ""
	}
	if got, err := w.Done(); got != want || err != e || w.Len() != len(s) {
		t.Errorf("%s: Done %.40q, %d, Len %d; want %.40q, %d, Len %d", what, got, err, w.Len(), want, e, len(s))
	}
}

// P1.1: the example of the chapter.
func TestExample(t *testing.T) {
	w := pack.New(7)
	w.Byte(1)
	w.Word(515)
	w.Text("ab")
	s := "\x01\x02\x03\x00\x02\x61\x62"
	checkDone(t, "example", w, s, api.OK)
	if l, e := pack.Scan("bw", s); len(l) != 0 || e != api.ErrBytes {
		t.Errorf("bw: %v, %d", l, e)
	}
	if l, e := pack.Scan("bwt", s); !slices.Equal(l, []pack.Value{{N: 1}, {N: 515}, {S: "ab"}}) || e != api.OK {
		t.Errorf("bwt: %v, %d", l, e)
	}
}

// P1.1: the first and the last number of each range, and the ones past them.
func TestRanges(t *testing.T) {
	type rangeCase struct {
		letter byte
		n      int
		bytes  string
		e      api.Errno
	}
	cases := []rangeCase{
		{'b', -1, "", api.ErrField},
		{'b', 0, "\x00", api.OK},
		{'b', 255, "\xff", api.OK},
		{'b', 256, "", api.ErrField},
		{'w', -1, "", api.ErrField},
		{'w', 0, "\x00\x00", api.OK},
		{'w', 255, "\x00\xff", api.OK},
		{'w', 256, "\x01\x00", api.OK},
		{'w', 65535, "\xff\xff", api.OK},
		{'w', 65536, "", api.ErrField},
		{'l', -1, "", api.ErrField},
		{'l', 0, "\x00\x00\x00\x00", api.OK},
		{'l', 16909060, "\x01\x02\x03\x04", api.OK},
		{'l', 4294967295, "\xff\xff\xff\xff", api.OK},
		{'l', 4294967296, "", api.ErrField},
	}
	for _, letter := range []byte("bwl") {
		for _, n := range []int{math.MinInt, math.MinInt32, math.MaxInt} {
			cases = append(cases, rangeCase{letter, n, "", api.ErrField})
		}
	}
	for _, c := range cases {
		w := pack.New(100)
		write(w, number(c.letter, c.n))
		checkDone(t, string(c.letter), w, c.bytes, c.e)
	}
	for n, s := range map[uint64]string{
		0:                  "\x00\x00\x00\x00\x00\x00\x00\x00",
		1:                  "\x00\x00\x00\x00\x00\x00\x00\x01",
		0x0102030405060708: "\x01\x02\x03\x04\x05\x06\x07\x08",
		1 << 63:            "\x80\x00\x00\x00\x00\x00\x00\x00",
		math.MaxUint64:     "\xff\xff\xff\xff\xff\xff\xff\xff",
	} {
		w := pack.New(100)
		w.Bits(n)
		checkDone(t, "bits", w, s, api.OK)
	}
}

// P1.1: texts of no byte, of any bytes, of the greatest length and one more.
func TestTexts(t *testing.T) {
	odd := "\x00\xff\xc3 \n\x80"
	for _, s := range []string{"", "a", odd, strings.Repeat("x", 255), strings.Repeat("x", 256), strings.Repeat("x", 65535)} {
		w := pack.New(1 << 20)
		w.Text(s)
		want, _ := bytesOf(text(s))
		checkDone(t, "text", w, want, api.OK)
	}
	w := pack.New(1 << 20)
	w.Text(strings.Repeat("x", 65536))
	checkDone(t, "65536 bytes", w, "", api.ErrField)
}

// P1.1 and P1.3: a limit that is below 0, none, one too few, just enough, one more, and the greatest.
func TestLimits(t *testing.T) {
	things := []thing{number('b', 255), number('w', 65535), number('l', 4294967295), bits(math.MaxUint64), text(""), text("abc"), text(strings.Repeat("x", 65535))}
	for _, x := range things {
		s, _ := bytesOf(x)
		for _, limit := range []int{math.MinInt, -1, 0, 1, len(s) - 1} {
			if limit >= len(s) {
				continue
			}
			w := pack.New(limit)
			write(w, x)
			checkDone(t, "too few", w, "", api.ErrLong)
		}
		for _, limit := range []int{len(s), len(s) + 1, math.MaxInt} {
			w := pack.New(limit)
			write(w, x)
			checkDone(t, "enough", w, s, api.OK)
		}
	}
	for _, limit := range []int{math.MinInt, -1, 0, 1, math.MaxInt} {
		checkDone(t, "nothing written", pack.New(limit), "", api.OK)
	}
}

// P1.1: a number out of its range is ErrField even where there is no room; the first error stays.
func TestFirstErrorDecides(t *testing.T) {
	for _, x := range []thing{number('b', 256), number('w', -1), number('l', 4294967296), text(strings.Repeat("x", 65536))} {
		w := pack.New(-5)
		write(w, x)
		checkDone(t, "field ahead of long", w, "", api.ErrField)
		w.Bits(1)
		checkDone(t, "field stays", w, "", api.ErrField)
		v := pack.New(1)
		v.Byte(9)
		v.Word(1)
		write(v, x)
		checkDone(t, "long stays", v, "\x09", api.ErrLong)
	}
	w := pack.New(3)
	w.Byte(1)
	w.Long(1)
	w.Byte(2)
	checkDone(t, "a shorter one behind it", w, "\x01", api.ErrLong)
}

// P1.1: Done leaves the writer as it is, and what it told before stays.
func TestDoneLeavesTheWriter(t *testing.T) {
	w := pack.New(3)
	w.Byte(1)
	first, _ := w.Done()
	checkDone(t, "again", w, "\x01", api.OK)
	w.Word(2)
	checkDone(t, "more", w, "\x01\x00\x02", api.OK)
	if first != "\x01" {
		t.Errorf("told before: %q", first)
	}
}

func checkReader(t *testing.T, what string, r *pack.Reader, left int, e api.Errno) {
	t.Helper()
	if r.Left() != left || r.End() != e {
		t.Errorf("%s: Left %d, End %d; want %d, %d", what, r.Left(), r.End(), left, e)
	}
}

// P1.1: what stands next is read, the greatest byte first.
func TestReads(t *testing.T) {
	r := pack.Read("\x01\x02\x03\xff\xfe\xfd\xfc\x80\x00\x00\x00\x00\x00\x00\x01\x00\x00\x00\x02\xff\x00")
	checkReader(t, "beginning", r, 21, api.ErrBytes)
	if n := r.Byte(); n != 1 {
		t.Error("byte", n)
	}
	if n := r.Word(); n != 515 {
		t.Error("word", n)
	}
	if n := r.Long(); n != 0xfffefdfc {
		t.Error("long", n)
	}
	if n := r.Bits(); n != 1<<63+1 {
		t.Error("bits", n)
	}
	checkReader(t, "ahead of the texts", r, 6, api.ErrBytes)
	if s := r.Text(); s != "" {
		t.Errorf("empty text %q", s)
	}
	if s := r.Text(); s != "\xff\x00" {
		t.Errorf("text %q", s)
	}
	checkReader(t, "end", r, 0, api.OK)
	checkReader(t, "empty", pack.Read(""), 0, api.OK)
}

// P1.1: each thing, cut short anywhere, is left whole, and nothing is read from then on.
func TestCutShort(t *testing.T) {
	for _, x := range []thing{number('b', 7), number('w', 770), number('l', 16909060), bits(math.MaxUint64), text(""), text("ab"), text(strings.Repeat("x", 65535))} {
		s, _ := bytesOf(x)
		cuts := []int{0, 1, 2, 3, len(s) - 2, len(s) - 1}
		for _, cut := range cuts {
			if cut < 0 || cut >= len(s) {
				continue
			}
			r := pack.Read("\x05" + s[:cut])
			r.Byte()
			if v := read(r, x.letter); v != (pack.Value{}) {
				t.Errorf("%c cut to %d: %v", x.letter, cut, v)
			}
			checkReader(t, "cut", r, cut, api.ErrShort)
			for _, letter := range []byte("bwlqt") {
				if v := read(r, letter); v != (pack.Value{}) {
					t.Errorf("%c behind %c cut to %d: %v", letter, x.letter, cut, v)
				}
			}
			checkReader(t, "behind the cut", r, cut, api.ErrShort)
		}
	}
}

// P1.1: a text whose bytes end too early is left with its length.
func TestTextCutWithinItsBytes(t *testing.T) {
	r := pack.Read("\x00\x03ab")
	if s := r.Text(); s != "" {
		t.Errorf("%q", s)
	}
	checkReader(t, "text", r, 4, api.ErrShort)
	if n := r.Byte(); n != 0 {
		t.Error("byte behind it", n)
	}
	checkReader(t, "behind it", r, 4, api.ErrShort)
}

// P1.1: Scan's errors, in their order, with no values beside them.
func TestScanErrors(t *testing.T) {
	cases := []struct {
		shape, text string
		e           api.Errno
	}{
		{"x", "", api.ErrArg},
		{"qx", "", api.ErrArg},
		{"xb", "\x01", api.ErrArg},
		{"bx", "\x01\x02", api.ErrArg},
		{"B", "\x01", api.ErrArg},
		{"b ", "\x01", api.ErrArg},
		{"b\x00", "\x01", api.ErrArg},
		{"é", "\x01\x02", api.ErrArg},
		{"b", "", api.ErrShort},
		{"bb", "\x01", api.ErrShort},
		{"lb", "\x01\x02\x03", api.ErrShort},
		{"q", "1234567", api.ErrShort},
		{"t", "\x00", api.ErrShort},
		{"t", "\x00\x02a", api.ErrShort},
		{"bt", "\x01\x00\x02a", api.ErrShort},
		{"", "\x01", api.ErrBytes},
		{"b", "\x01\x02", api.ErrBytes},
		{"t", "\x00\x01ab", api.ErrBytes},
	}
	for _, c := range cases {
		if l, e := pack.Scan(c.shape, c.text); len(l) != 0 || e != c.e {
			t.Errorf("Scan(%q, %q): %v, %d; want %d", c.shape, c.text, l, e, c.e)
		}
	}
	if l, e := pack.Scan("", ""); len(l) != 0 || e != api.OK {
		t.Errorf("nothing: %v, %d", l, e)
	}
}

// P1.1: no letter but the five is one of a shape.
func TestScanLetters(t *testing.T) {
	for b := range 256 {
		shape := string([]byte{byte(b)})
		want := api.ErrArg
		if strings.Contains("bwlqt", shape) {
			want = api.ErrShort
		}
		if l, e := pack.Scan(shape, ""); len(l) != 0 || e != want {
			t.Errorf("%q: %v, %d; want %d", shape, l, e, want)
		}
	}
}

// P1.1: each letter fills its own field alone.
func TestScanFields(t *testing.T) {
	s := "\x01\x02\x03\xff\xff\xff\xff\x80\x00\x00\x00\x00\x00\x00\x01\x00\x02ab"
	want := []pack.Value{{N: 1}, {N: 515}, {N: 4294967295}, {Bits: 1<<63 + 1}, {S: "ab"}}
	l, e := pack.Scan("bwlqt", s)
	if !slices.Equal(l, want) || e != api.OK {
		t.Errorf("%v, %d", l, e)
	}
	other, _ := pack.Scan("bwlqt", s)
	other[0].N = 77
	if l[0].N != 1 {
		t.Error("two answers share memory")
	}
}

// P1.1: what is nil answers zero values, and ErrArg where it tells an error.
func TestNil(t *testing.T) {
	var w *pack.Writer
	for _, x := range []thing{number('b', 1), number('b', 256), number('w', 1), number('l', 1), bits(1), text("a"), text(strings.Repeat("x", 65536))} {
		write(w, x)
	}
	checkDone(t, "nil writer", w, "", api.ErrArg)
	var r *pack.Reader
	for _, letter := range []byte("bwlqt") {
		if v := read(r, letter); v != (pack.Value{}) {
			t.Errorf("nil reader: %c: %v", letter, v)
		}
	}
	checkReader(t, "nil reader", r, 0, api.ErrArg)
}

// P1.1 and P1.3: all short rows of calls, at all small limits, call by call.
func TestAllRowsOfWrites(t *testing.T) {
	pool := []thing{number('b', 5), number('b', -1), number('w', 258), number('w', 65536), number('l', 1<<31), bits(1 << 40), text(""), text("abc")}
	for limit := -1; limit <= 14; limit++ {
		rows(pool, 3, func(row []thing) {
			w := pack.New(limit)
			for i, x := range row {
				write(w, x)
				if w.Len() > max(limit, 0) {
					t.Fatalf("limit %d: %d bytes", limit, w.Len())
				}
				s, e := expected(limit, row[:i+1])
				checkDone(t, "row", w, s, e)
			}
		})
	}
}

// P1.3: many calls behind each other never pass the limit.
func TestLongRowKeepsTheLimit(t *testing.T) {
	w := pack.New(1000)
	for i := range 2000 {
		w.Byte(i % 256)
		if want := min(i+1, 1000); w.Len() != want {
			t.Fatalf("behind %d: %d bytes", i+1, w.Len())
		}
	}
	if s, e := w.Done(); s != "" || e != api.ErrLong {
		t.Error(len(s), e)
	}
}

// P1.2: what was written without an error is read again, by a reader and by Scan.
func TestWrittenIsRead(t *testing.T) {
	pool := []thing{
		number('b', 0), number('b', 255), number('w', 0), number('w', 65535), number('l', 0), number('l', 4294967295),
		bits(0), bits(math.MaxUint64), text(""), text("\x00\x01"), text(strings.Repeat("y", 300)),
	}
	check := func(row []thing) {
		w := pack.New(1 << 20)
		shape := ""
		var values []pack.Value
		for _, x := range row {
			write(w, x)
			shape += string(x.letter)
			values = append(values, x.value)
		}
		s, e := w.Done()
		if e != api.OK {
			t.Fatalf("%s: %d", shape, e)
		}
		r := pack.Read(s)
		for _, x := range row {
			if v := read(r, x.letter); v != x.value {
				t.Fatalf("%s: read %v; written %v", shape, v, x.value)
			}
		}
		checkReader(t, shape, r, 0, api.OK)
		if l, e := pack.Scan(shape, s); !slices.Equal(l, values) || e != api.OK {
			t.Fatalf("Scan %s: %v, %d", shape, l, e)
		}
	}
	rows(pool, 3, check)
	check([]thing{text(strings.Repeat("z", 65535)), number('b', 1), text(strings.Repeat("z", 65535))})
}

// P1.2: what is read to the end would be written as just these bytes; and Scan, a reader and a writer agree on every short text.
func TestReadIsWritten(t *testing.T) {
	var shapes []string
	rows([]byte("bwlt"), 3, func(row []byte) { shapes = append(shapes, string(row)) })
	whole := 0
	rows([]byte{0, 1, 2, 255}, 5, func(row []byte) {
		s := string(row)
		for _, shape := range shapes {
			l, e := pack.Scan(shape, s)
			r := pack.Read(s)
			w := pack.New(len(s))
			for i := range len(shape) {
				v := read(r, shape[i])
				if e == api.OK && v != l[i] {
					t.Fatalf("%q in %q: Scan %v, reader %v", shape, s, l[i], v)
				}
				write(w, thing{shape[i], v})
			}
			if r.End() != e {
				t.Fatalf("%q in %q: Scan %d, reader %d", shape, s, e, r.End())
			}
			if e != api.OK {
				continue
			}
			whole++
			checkDone(t, shape, w, s, api.OK)
		}
	})
	if whole == 0 {
		t.Error("nothing was read to the end")
	}
}

// W0: no bytes and no shape make Scan panic.
func FuzzScan(f *testing.F) {
	f.Add("bwt", "\x01\x02\x03\x00\x02ab")
	f.Add("tttt", "\xff\xff")
	f.Add("x\xff", "")
	f.Fuzz(func(t *testing.T, shape, s string) {
		l, e := pack.Scan(shape, s)
		if e != api.OK {
			if len(l) != 0 {
				t.Errorf("values beside %d", e)
			}
			return
		}
		w := pack.New(len(s))
		for i, v := range l {
			write(w, thing{shape[i], v})
		}
		checkDone(t, shape, w, s, api.OK)
	})
}
