package deeds_test

import (
	"encoding/binary"
	"fmt"
	"math"
	"strings"
	"testing"

	"witan/api"
	"witan/deeds"
)

const (
	lastClient = 8
	lastStamp  = 1048576
	lastID     = 15
	lastKey    = 16
	lastCode   = 8
	lastLong   = 4294967295

	oneNaN uint64 = 0x7FF8000000000000

	// bare is how many bytes a request's text has beside its key's.
	bare = 18
)

// modelBits answers the bits by which all know a real.
func modelBits(x float64) uint64 {
	if x != x {
		return oneNaN
	}
	return math.Float64bits(x)
}

// askOf is what the chapter asks of an operation of one kind.
type askOf struct {
	leastKey, mostKey int
	anyReal           bool
	mostID            int
}

// modelAsks answers the chapter's paragraph as a table, kind by kind.
func modelAsks() map[int]askOf {
	return map[int]askOf{
		1: {1, lastKey, true, 0},
		2: {1, lastKey, true, 0},
		3: {1, lastKey, true, 0},
		4: {1, lastKey, false, 0},
		5: {1, lastKey, false, 0},
		6: {0, 0, false, lastID},
		7: {0, 0, false, lastID},
	}
}

func modelRight(r api.Request) bool {
	ask, known := modelAsks()[r.Op.Kind]
	return known &&
		1 <= r.Client && r.Client <= lastClient && 1 <= r.Stamp && r.Stamp <= lastStamp &&
		ask.leastKey <= len(r.Op.Key) && len(r.Op.Key) <= ask.mostKey &&
		(ask.anyReal || modelBits(r.Op.Real) == 0) &&
		0 <= r.Op.ID && r.Op.ID <= ask.mostID
}

// plain is a request with its real's bits in the real's place, so that two are equal just if they are the same.
type plain struct {
	client, stamp, kind int
	key                 string
	bits                uint64
	id                  int
}

func plainOf(r api.Request) plain {
	return plain{r.Client, r.Stamp, r.Op.Kind, r.Op.Key, modelBits(r.Op.Real), r.Op.ID}
}

func modelNull(r api.Request) bool { return plainOf(r) == plain{} }

func modelSame(a, b api.Request) bool {
	return (modelRight(a) && modelRight(b) || modelNull(a) && modelNull(b)) && plainOf(a) == plainOf(b)
}

// layout answers the bytes that the fields would have in a request's text, whether they may be or not.
func layout(r api.Request) string {
	s := []byte{1, byte(r.Client)}
	s = binary.BigEndian.AppendUint32(s, uint32(r.Stamp))
	s = append(s, byte(r.Op.Kind))
	s = binary.BigEndian.AppendUint16(s, uint16(len(r.Op.Key)))
	s = append(s, r.Op.Key...)
	s = binary.BigEndian.AppendUint64(s, modelBits(r.Op.Real))
	return string(append(s, byte(r.Op.ID)))
}

func modelText(r api.Request) (string, api.Errno) {
	switch {
	case modelNull(r):
		return "\x00", api.OK
	case modelRight(r):
		return layout(r), api.OK
	}
	return "", api.ErrArg
}

// modelRead takes the only request whose text it could be, and looks if it is.
func modelRead(text string) (api.Request, api.Errno) {
	if text == "\x00" {
		return api.Request{}, api.OK
	}
	if len(text) < bare {
		return api.Request{}, api.ErrBytes
	}
	s, end := []byte(text), len(text)
	r := api.Request{Client: int(s[1]), Stamp: int(binary.BigEndian.Uint32(s[2:]))}
	r.Op = api.Op{Kind: int(s[6]), Key: text[9 : end-9], ID: int(s[end-1])}
	r.Op.Real = math.Float64frombits(binary.BigEndian.Uint64(s[end-9:]))
	if !modelRight(r) || layout(r) != text {
		return api.Request{}, api.ErrBytes
	}
	return r, api.OK
}

func modelResultText(x api.Result) (string, api.Errno) {
	if x.Code < 0 || x.Code > lastCode {
		return "", api.ErrArg
	}
	return string(binary.BigEndian.AppendUint64([]byte{byte(x.Code)}, modelBits(x.Real))), api.OK
}

func modelReadResult(text string) (api.Result, api.Errno) {
	if len(text) != 9 {
		return api.Result{}, api.ErrBytes
	}
	x := api.Result{Code: int(text[0]), Real: math.Float64frombits(binary.BigEndian.Uint64([]byte(text[1:])))}
	if s, e := modelResultText(x); e != api.OK || s != text {
		return api.Result{}, api.ErrBytes
	}
	return x, api.OK
}

// longs answers the numbers as four bytes each, and false if one of them isn't 0 to 4294967295.
func longs(numbers ...int) (string, bool) {
	var s []byte
	for _, n := range numbers {
		if int64(n) < 0 || int64(n) > lastLong {
			return "", false
		}
		s = binary.BigEndian.AppendUint32(s, uint32(n))
	}
	return string(s), true
}

func modelPrepared(epoch, view, slot int, r api.Request) (string, api.Errno) {
	numbers, ok := longs(epoch, view, slot)
	request, e := modelText(r)
	if !ok || e != api.OK {
		return "", api.ErrArg
	}
	return "P" + numbers + request, api.OK
}

func modelState(slot int, bytes string) (string, api.Errno) {
	number, ok := longs(slot)
	if !ok {
		return "", api.ErrArg
	}
	return "S" + number + bytes, api.OK
}

// sameBits tells if two requests have the same fields to the last bit: what is answered has the one NaN, not just any.
func sameBits(a, b api.Request) bool {
	x, y := math.Float64bits(a.Op.Real), math.Float64bits(b.Op.Real)
	a.Op.Real, b.Op.Real = 0, 0
	return x == y && a == b
}

func sameResultBits(a, b api.Result) bool {
	return a.Code == b.Code && math.Float64bits(a.Real) == math.Float64bits(b.Real)
}

// told answers a request for a test's message: in short, with its real's own bits.
func told(r api.Request) string {
	return fmt.Sprintf("{client %d, stamp %d, kind %d, key %.20q of %d, real %x, ID %d}", r.Client, r.Stamp, r.Op.Kind, r.Op.Key, len(r.Op.Key), math.Float64bits(r.Op.Real), r.Op.ID)
}

// expectRequest holds all that is told of one request against the model, and reads its text again.
func expectRequest(t *testing.T, r api.Request) {
	t.Helper()
	if got, want := deeds.Right(r), modelRight(r); got != want {
		t.Errorf("Right(%s): %v", told(r), got)
	}
	if got, want := deeds.Null(r), modelNull(r); got != want {
		t.Errorf("Null(%s): %v", told(r), got)
	}
	want, wantErr := modelText(r)
	got, err := deeds.Text(r)
	if got != want || err != wantErr {
		t.Errorf("Text(%s): %.60q %d, not %.60q %d", told(r), got, err, want, wantErr)
	}
	if wantErr != api.OK {
		return
	}
	r.Op.Real = math.Float64frombits(modelBits(r.Op.Real))
	if back, err := deeds.Read(got); !sameBits(back, r) || err != api.OK {
		t.Errorf("Read(%.60q): %s %d, not %s", got, told(back), err, told(r))
	}
}

func expectRead(t *testing.T, text string) {
	t.Helper()
	want, wantErr := modelRead(text)
	got, err := deeds.Read(text)
	if !sameBits(got, want) || err != wantErr {
		t.Errorf("Read(%.60q of %d): %s %d, not %s %d", text, len(text), told(got), err, told(want), wantErr)
	}
	if err != api.OK {
		return
	}
	if again, err := deeds.Text(got); again != text || err != api.OK {
		t.Errorf("Read(%q) is told as %q %d", text, again, err)
	}
}

func expectNoRequest(t *testing.T, what, text string) {
	t.Helper()
	if got, err := deeds.Read(text); !sameBits(got, api.Request{}) || err != api.ErrBytes {
		t.Errorf("%s: Read(%.60q of %d): %s %d", what, text, len(text), told(got), err)
	}
	expectRead(t, text)
}

func expectResult(t *testing.T, x api.Result) {
	t.Helper()
	want, wantErr := modelResultText(x)
	got, err := deeds.ResultText(x)
	if got != want || err != wantErr {
		t.Errorf("ResultText(%+v): %q %d, not %q %d", x, got, err, want, wantErr)
	}
	if wantErr != api.OK {
		return
	}
	x.Real = math.Float64frombits(modelBits(x.Real))
	if back, err := deeds.ReadResult(got); !sameResultBits(back, x) || err != api.OK {
		t.Errorf("ReadResult(%q): %+v %d, not %+v", got, back, err, x)
	}
}

func expectReadResult(t *testing.T, text string) {
	t.Helper()
	want, wantErr := modelReadResult(text)
	got, err := deeds.ReadResult(text)
	if !sameResultBits(got, want) || err != wantErr {
		t.Errorf("ReadResult(%.60q of %d): %+v %d, not %+v %d", text, len(text), got, err, want, wantErr)
	}
	if err != api.OK {
		return
	}
	if again, err := deeds.ResultText(got); again != text || err != api.OK {
		t.Errorf("ReadResult(%q) is told as %q %d", text, again, err)
	}
}

// request answers a request of these fields.
func request(client, stamp, kind int, key string, real float64, id int) api.Request {
	return api.Request{Client: client, Stamp: stamp, Op: api.Op{Kind: kind, Key: key, Real: real, ID: id}}
}

var minusNought = math.Copysign(0, -1)

// edgeBits answers rows of bits around each edge of the format, of reals and of other NaNs.
func edgeBits() []uint64 {
	sizes := []uint64{
		0, 1, 2, 1<<52 - 1, 1 << 52, 1<<52 + 1,
		math.Float64bits(1) - 1, math.Float64bits(1), math.Float64bits(1) + 1, math.Float64bits(0.1),
		0x7FEFFFFFFFFFFFFF, 0x7FF0000000000000, 0x7FF0000000000001, 0x7FF7FFFFFFFFFFFF,
		0x7FF8000000000000, 0x7FF8000000000001, 0x7FFC000000000000, 0x7FFFFFFFFFFFFFFF,
	}
	var all []uint64
	for _, n := range sizes {
		all = append(all, n, n|1<<63)
	}
	for i := range 64 {
		all = append(all, 1<<i, ^(uint64(1) << i), oneNaN^1<<i)
	}
	return all
}

// edgeReals answers the reals with the bits of the format's edges, whatever NaN they are.
func edgeReals() []float64 {
	var all []float64
	for _, n := range edgeBits() {
		all = append(all, math.Float64frombits(n))
	}
	return all
}

// someReals answers the edges that the chapter names.
func someReals() []float64 {
	return []float64{
		0, minusNought, 1, -1, math.SmallestNonzeroFloat64, -math.SmallestNonzeroFloat64, math.MaxFloat64, -math.MaxFloat64,
		math.Inf(1), math.Inf(-1), math.Float64frombits(oneNaN), math.Float64frombits(0x7FF0000000000001), math.Float64frombits(0xFFFFFFFFFFFFFFFF),
	}
}

func someKeys() []string {
	return []string{"", "k", "\x00", "\xff", "0123456789abcdef", strings.Repeat("\xc3", 16), "0123456789abcdefg", strings.Repeat("\x00", 17), strings.Repeat("x", 65536+3)}
}

func someKinds() []int {
	return []int{-1, 0, 1, 2, 3, 4, 5, 6, 7, 8, 9, 255, 256, 257, 261, 262, 1<<32 + 6, -250, math.MinInt, math.MaxInt}
}

func someIDs() []int {
	return []int{-1, 0, 1, 15, 16, 255, 256, -256, 1 << 32, math.MinInt, math.MaxInt}
}

func someClients() []int {
	return []int{-1, 0, 1, 2, 8, 9, 101, 255, 256, 257, 264, math.MinInt, math.MaxInt}
}

func someStamps() []int {
	return []int{-1, 0, 1, 2, 255, 256, 65535, 65536, 1048575, 1048576, 1048577, 1 << 21, lastLong, lastLong + 1, lastLong + 2, math.MinInt, math.MaxInt}
}

// rightOnes answers a right request of each kind.
func rightOnes() []api.Request {
	return []api.Request{
		request(1, 1, api.OpPut, "k", 1.5, 0),
		request(8, lastStamp, api.OpAdd, "0123456789abcdef", minusNought, 0),
		request(3, 70000, api.OpMax, "\x00\xff", math.Inf(-1), 0),
		request(4, 256, api.OpCut, "\x00", 0, 0),
		request(2, 3, api.OpGet, "k", 0, 0),
		request(5, 65536, api.OpJoin, "", 0, 15),
		request(7, 9, api.OpLeave, "", 0, 0),
	}
}
