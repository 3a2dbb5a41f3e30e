package deeds_test

import (
	"encoding/binary"
	"math"
	"math/rand"
	"strings"
	"testing"

	"witan/api"
	"witan/deeds"
)

// P11.1: texts, and what is read of them.

func TestExamples(t *testing.T) {
	if s, e := deeds.Text(api.Request{}); s != "\x00" || e != api.OK {
		t.Errorf("null: %q %d", s, e)
	}
	r := request(2, 3, api.OpGet, "k", 0, 0)
	want := "\x01\x02\x00\x00\x00\x03\x05\x00\x01\x6B" + "\x00\x00\x00\x00\x00\x00\x00\x00" + "\x00"
	if s, e := deeds.Text(r); s != want || e != api.OK {
		t.Errorf("get: %q %d", s, e)
	}
	if got, e := deeds.Read(want); got != r || e != api.OK {
		t.Errorf("read: %s %d", told(got), e)
	}
	if got, e := deeds.Read("\x00"); got != (api.Request{}) || e != api.OK {
		t.Errorf("read null: %s %d", told(got), e)
	}
}

// Texts of each kind of fields, written out byte by byte.
func TestTextsWrittenOut(t *testing.T) {
	for want, r := range map[string]api.Request{
		"\x01\x08\x00\x10\x00\x00\x01\x00\x02ab\xbf\xf8\x00\x00\x00\x00\x00\x00\x00":               request(8, 1048576, api.OpPut, "ab", -1.5, 0),
		"\x01\x01\x00\x00\x00\x01\x02\x00\x100123456789abcdef\x7f\xf0\x00\x00\x00\x00\x00\x00\x00": request(1, 1, api.OpAdd, "0123456789abcdef", math.Inf(1), 0),
		"\x01\x03\x00\x01\x02\x03\x03\x00\x01\xff\x80\x00\x00\x00\x00\x00\x00\x00\x00":             request(3, 66051, api.OpMax, "\xff", minusNought, 0),
		"\x01\x03\x00\x00\x01\x00\x04\x00\x01\x00\x00\x00\x00\x00\x00\x00\x00\x00\x00":             request(3, 256, api.OpCut, "\x00", 0, 0),
		"\x01\x04\x00\x00\x00\x09\x06\x00\x00\x00\x00\x00\x00\x00\x00\x00\x00\x0f":                 request(4, 9, api.OpJoin, "", 0, 15),
		"\x01\x05\x00\x00\x00\x0a\x07\x00\x00\x00\x00\x00\x00\x00\x00\x00\x00\x01":                 request(5, 10, api.OpLeave, "", 0, 1),
		"\x01\x05\x00\x00\x00\x0a\x01\x00\x01n\x7f\xf8\x00\x00\x00\x00\x00\x00\x00":                request(5, 10, api.OpPut, "n", math.Float64frombits(0xfff0000000000123), 0),
	} {
		if s, e := deeds.Text(r); s != want || e != api.OK {
			t.Errorf("%s: %q %d, not %q", told(r), s, e, want)
		}
		expectRequest(t, r)
		expectRead(t, want)
	}
}

func TestReadCutShort(t *testing.T) {
	expectNoRequest(t, "nothing", "")
	for _, r := range rightOnes() {
		s, _ := deeds.Text(r)
		for n := range len(s) {
			expectNoRequest(t, "cut short", s[:n])
			expectRead(t, s[n:])
		}
	}
}

func TestReadWithMoreBehind(t *testing.T) {
	for _, r := range append(rightOnes(), api.Request{}) {
		s, _ := deeds.Text(r)
		for b := range 256 {
			expectNoRequest(t, "a byte more", s+string([]byte{byte(b)}))
		}
		expectNoRequest(t, "twice", s+s)
		expectNoRequest(t, "null behind", s+"\x00")
		expectNoRequest(t, "null ahead", "\x00"+s)
		expectNoRequest(t, "very many behind", s+strings.Repeat("\x00", 1<<20))
	}
}

// Each byte of a text changed to each other one: what is read is what is told so, or nothing.
func TestReadEveryByteChanged(t *testing.T) {
	for _, r := range rightOnes() {
		s, _ := deeds.Text(r)
		for place := range len(s) {
			for b := range 256 {
				other := []byte(s)
				other[place] = byte(b)
				expectRead(t, string(other))
				if place == 0 && b != 1 {
					expectNoRequest(t, "another first byte", string(other))
				}
			}
		}
	}
	for b := 1; b < 256; b++ {
		expectNoRequest(t, "one byte", string([]byte{byte(b)}))
	}
}

// A key's length that isn't its own: too great, too small, or past what may be.
func TestReadKeyLengths(t *testing.T) {
	for size := range 40 {
		for _, kind := range []byte{1, 2, 3, 4, 5, 6, 7} {
			for said := range 40 {
				s := "\x01\x01\x00\x00\x00\x01" + string([]byte{kind, 0, byte(said)}) + strings.Repeat("\x00", size) + strings.Repeat("\x00", 9)
				fits := said == size && (kind < 6 && size >= 1 && size <= 16 || kind >= 6 && size == 0)
				if fits {
					expectRead(t, s)
				} else {
					expectNoRequest(t, "key", s)
				}
			}
		}
	}
	for _, said := range []int{17, 255, 256, 257, 65534, 65535} {
		length := string([]byte{byte(said >> 8), byte(said)})
		expectNoRequest(t, "all of a long key", "\x01\x01\x00\x00\x00\x01\x05"+length+strings.Repeat("k", said)+strings.Repeat("\x00", 9))
		expectNoRequest(t, "a part of a long key", "\x01\x01\x00\x00\x00\x01\x05"+length+"k"+strings.Repeat("\x00", 9))
	}
}

// Bits that no real has as its own: of all NaNs just one is read.
func TestReadBits(t *testing.T) {
	for _, n := range edgeBits() {
		bits := string(binary.BigEndian.AppendUint64(nil, n))
		isReal := n == oneNaN || n&^(1<<63) <= 0x7FF0000000000000
		for kind := byte(1); kind <= 5; kind++ {
			s := "\x01\x02\x00\x00\x00\x03" + string([]byte{kind}) + "\x00\x01k" + bits + "\x00"
			if isReal && (kind <= 3 || n == 0) {
				got, e := deeds.Read(s)
				if e != api.OK || math.Float64bits(got.Op.Real) != n {
					t.Errorf("%x: %x %d", n, math.Float64bits(got.Op.Real), e)
				}
				expectRead(t, s)
			} else {
				expectNoRequest(t, "bits", s)
			}
		}
		for kind := byte(6); kind <= 7; kind++ {
			s := "\x01\x02\x00\x00\x00\x03" + string([]byte{kind}) + "\x00\x00" + bits + "\x04"
			if n == 0 {
				expectRead(t, s)
			} else {
				expectNoRequest(t, "bits of a member", s)
			}
		}
	}
}

// Numbers that may not be, each at its place.
func TestReadNumbersThatMayNotBe(t *testing.T) {
	tail := "\x00\x00\x00\x00\x00\x00\x00\x00"
	for b := range 256 {
		one := string([]byte{byte(b)})
		if b < 1 || b > 8 {
			expectNoRequest(t, "client", "\x01"+one+"\x00\x00\x00\x03\x05\x00\x01k"+tail+"\x00")
		}
		if b < 1 || b > 5 {
			expectNoRequest(t, "kind with a key", "\x01\x02\x00\x00\x00\x03"+one+"\x00\x01k"+tail+"\x00")
		}
		if b < 6 || b > 7 {
			expectNoRequest(t, "kind without a key", "\x01\x02\x00\x00\x00\x03"+one+"\x00\x00"+tail+"\x00")
		}
		if b > 0 {
			expectNoRequest(t, "ID of a get", "\x01\x02\x00\x00\x00\x03\x05\x00\x01k"+tail+one)
		}
		if b > 15 {
			expectNoRequest(t, "ID of a join", "\x01\x02\x00\x00\x00\x03\x06\x00\x00"+tail+one)
		}
	}
	for _, n := range []uint32{0, 1048577, 1 << 24, 1 << 31, 1<<31 + 1, 1<<32 - 1} {
		expectNoRequest(t, "stamp", "\x01\x02"+string(binary.BigEndian.AppendUint32(nil, n))+"\x05\x00\x01k"+tail+"\x00")
	}
	// The null request has no other text than its own.
	expectNoRequest(t, "null written at length", "\x01"+strings.Repeat("\x00", 17))
	expectNoRequest(t, "nothing but 0", strings.Repeat("\x00", 18))
}

// rolled answers a request out of many, most of them right.
func rolled(roll *rand.Rand) api.Request {
	key := make([]byte, roll.Intn(17))
	roll.Read(key)
	r := request(1+roll.Intn(8), 1+roll.Intn(lastStamp), 1+roll.Intn(7), string(key), math.Float64frombits(roll.Uint64()), 0)
	if roll.Intn(4) == 0 {
		r.Op.Real = edgeReals()[roll.Intn(100)]
	}
	if r.Op.Kind > 3 {
		r.Op.Real = 0
	}
	if r.Op.Kind > 5 {
		r.Op.Key, r.Op.ID = "", roll.Intn(16)
	}
	return r
}

// Texts put together by chance, near to right ones and far from them.
func TestReadManyTexts(t *testing.T) {
	roll := rand.New(rand.NewSource(11))
	for range 100000 {
		s := []byte(layout(rolled(roll)))
		for range roll.Intn(3) {
			s[roll.Intn(len(s))] = byte(roll.Intn(18))
		}
		expectRead(t, string(s))
	}
	for range 20000 {
		s := make([]byte, roll.Intn(40))
		roll.Read(s)
		expectRead(t, string(s))
		if len(s) > 0 {
			s[0] = 1
			expectRead(t, string(s))
		}
	}
}

// P11.2: what is told is read again as the same.

func TestToldIsReadAgain(t *testing.T) {
	roll := rand.New(rand.NewSource(2))
	all := append(rightOnes(), api.Request{})
	for range 50000 {
		all = append(all, rolled(roll))
	}
	for _, x := range edgeReals() {
		all = append(all, request(1, 1, api.OpPut, "k", x, 0), request(1, 1, api.OpAdd, "\x00", x, 0), request(1, 1, api.OpMax, "0123456789abcdef", x, 0))
	}
	for _, r := range all {
		s, e := deeds.Text(r)
		if e != api.OK {
			if modelRight(r) || modelNull(r) {
				t.Errorf("Text(%s): %d", told(r), e)
			}
			continue
		}
		back, e := deeds.Read(s)
		if e != api.OK || !deeds.Same(back, r) || plainOf(back) != plainOf(r) {
			t.Errorf("%s is read again as %s %d", told(r), told(back), e)
		}
		if math.IsNaN(back.Op.Real) && math.Float64bits(back.Op.Real) != oneNaN {
			t.Errorf("%s: a NaN is read as %x", told(r), math.Float64bits(back.Op.Real))
		}
	}
}

// P11.2: unlike ones have unlike texts.

func TestUnlikeTexts(t *testing.T) {
	all := []api.Request{{}}
	for _, client := range []int{1, 2, 7, 8} {
		for _, stamp := range []int{1, 2, 255, 256, 257, 65536, 1048575, 1048576} {
			for kind := 1; kind <= 5; kind++ {
				for _, key := range []string{"k", "l", "kk", "\x00", "\x00\x00", "k\x00", "\x00k", "\x01", "0123456789abcdef", "0123456789abcdeg", strings.Repeat("\x00", 16)} {
					all = append(all, request(client, stamp, kind, key, 0, 0))
					if kind <= 3 {
						for _, x := range someReals()[1:] {
							all = append(all, request(client, stamp, kind, key, x, 0))
						}
					}
				}
			}
			for id := range 16 {
				all = append(all, request(client, stamp, api.OpJoin, "", 0, id), request(client, stamp, api.OpLeave, "", 0, id))
			}
		}
	}
	expectUnlike(t, all)
}

// Keys and reals whose bytes stand beside one another, so that bytes of the one could be taken for bytes of the other.
func TestUnlikeTextsOfKeysAndReals(t *testing.T) {
	var all []api.Request
	for size := 1; size <= 16; size++ {
		for fill := range 4 {
			key := strings.Repeat(string([]byte{byte(fill)}), size)
			for _, n := range []uint64{0, 1, 1 << 8, 0x0101010101010101, 0x0202020202020202, 0x0303030303030303, 0x0003000000000000} {
				all = append(all, request(1, 1, api.OpPut, key, math.Float64frombits(n), 0))
			}
		}
	}
	expectUnlike(t, all)
}

func TestUnlikeTextsOfReals(t *testing.T) {
	var all []api.Request
	for _, x := range edgeReals() {
		all = append(all, request(1, 1, api.OpPut, "k", x, 0))
	}
	for exponent := range uint64(2048) {
		for _, rest := range []uint64{0, 1, 1 << 51, 1<<52 - 1} {
			all = append(all, request(1, 1, api.OpPut, "k", math.Float64frombits(exponent<<52|rest), 0), request(1, 1, api.OpPut, "k", math.Float64frombits(1<<63|exponent<<52|rest), 0))
		}
	}
	expectUnlike(t, all)
}

// expectUnlike holds the texts of all these requests against one another: one text just for what is the same.
func expectUnlike(t *testing.T, all []api.Request) {
	t.Helper()
	byText := map[string]plain{}
	byRequest := map[plain]string{}
	for _, r := range all {
		s, e := deeds.Text(r)
		if e != api.OK {
			t.Fatalf("Text(%s): %d", told(r), e)
		}
		p := plainOf(r)
		if other, known := byText[s]; known && other != p {
			t.Errorf("%+v and %+v have one text", other, p)
		}
		if other, known := byRequest[p]; known && other != s {
			t.Errorf("%+v has two texts", p)
		}
		byText[s], byRequest[p] = p, s
	}
}

// Requests that differ in one field have unlike texts and aren't the same.
func TestUnlikeInOneField(t *testing.T) {
	put, join := request(2, 3, api.OpPut, "k", 1, 0), request(2, 3, api.OpJoin, "", 0, 4)
	for _, two := range [][2]api.Request{
		{put, request(3, 3, api.OpPut, "k", 1, 0)},
		{put, request(2, 4, api.OpPut, "k", 1, 0)},
		{put, request(2, 3, api.OpAdd, "k", 1, 0)},
		{put, request(2, 3, api.OpPut, "K", 1, 0)},
		{put, request(2, 3, api.OpPut, "k\x00", 1, 0)},
		{put, request(2, 3, api.OpPut, "k", math.Nextafter(1, 2), 0)},
		{request(2, 3, api.OpPut, "k", 0, 0), request(2, 3, api.OpPut, "k", minusNought, 0)},
		{request(2, 3, api.OpCut, "k", 0, 0), request(2, 3, api.OpGet, "k", 0, 0)},
		{join, request(2, 3, api.OpJoin, "", 0, 5)},
		{join, request(2, 3, api.OpLeave, "", 0, 4)},
	} {
		s, e := deeds.Text(two[0])
		other, f := deeds.Text(two[1])
		if e != api.OK || f != api.OK || s == other || deeds.Same(two[0], two[1]) || deeds.Same(two[1], two[0]) {
			t.Errorf("%s and %s: %q %d, %q %d", told(two[0]), told(two[1]), s, e, other, f)
		}
	}
}
