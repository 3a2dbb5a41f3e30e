package change_test

import (
	"encoding/binary"
	"fmt"
	"math"
	"slices"
	"strings"
	"testing"

	"witan/api"
	"witan/change"
)

const (
	least     = 4
	most      = 10
	ids       = 16
	interval  = 4
	lastEpoch = 60
	lastView  = 15
	lastBy    = 199
	mostSigs  = 16
	mostText  = 65535
	lastStamp = 1048576

	oneNaN uint64 = 0x7FF8000000000000
)

// quorums answers how many members must agree, by how many there are, written out.
func quorums() map[int]int {
	return map[int]int{4: 3, 5: 4, 6: 4, 7: 5, 8: 6, 9: 6, 10: 7}
}

// faults answers how many members may be bad, by how many there are, written out.
func faults() map[int]int {
	return map[int]int{4: 1, 5: 1, 6: 1, 7: 2, 8: 2, 9: 2, 10: 3}
}

func bitsOf(x float64) uint64 {
	if x != x {
		return oneNaN
	}
	return math.Float64bits(x)
}

func isIn(n, from, to int) bool { return from <= n && n <= to }

func isNull(r api.Request) bool {
	return r.Client == 0 && r.Stamp == 0 && r.Op.Kind == 0 && r.Op.Key == "" && r.Op.ID == 0 && bitsOf(r.Op.Real) == 0
}

func isRight(r api.Request) bool {
	if !isIn(r.Client, 1, 8) || !isIn(r.Stamp, 1, lastStamp) || !isIn(r.Op.Kind, 1, 7) {
		return false
	}
	if r.Op.Kind > 3 && bitsOf(r.Op.Real) != 0 {
		return false
	}
	if r.Op.Kind > 5 {
		return r.Op.Key == "" && isIn(r.Op.ID, 0, ids-1)
	}
	return isIn(len(r.Op.Key), 1, 16) && r.Op.ID == 0
}

func isRightConf(c api.Conf) bool {
	var sorted []int
	for id := range ids {
		if slices.Contains(c.Members, id) {
			sorted = append(sorted, id)
		}
	}
	return isIn(c.Epoch, 0, lastEpoch) && isIn(len(c.Members), least, most) && slices.Equal(sorted, c.Members)
}

// requestText answers the text of a request, right or null.
func requestText(r api.Request) string {
	if isNull(r) {
		return "\x00"
	}
	b := binary.BigEndian.AppendUint32([]byte{1, byte(r.Client)}, uint32(r.Stamp))
	b = append(append(b, byte(r.Op.Kind)), textBytes(r.Op.Key)...)
	return string(append(binary.BigEndian.AppendUint64(b, bitsOf(r.Op.Real)), byte(r.Op.ID)))
}

// textBytes answers a text behind its length.
func textBytes(s string) string {
	return string(binary.BigEndian.AppendUint16(nil, uint16(len(s)))) + s
}

func preparedText(epoch, view, slot int, r api.Request) string {
	b := []byte{80}
	for _, n := range []int{epoch, view, slot} {
		b = binary.BigEndian.AppendUint32(b, uint32(n))
	}
	return string(b) + requestText(r)
}

// bytesOf answers a change's bytes by the chapter's words, whether it fits or not.
func bytesOf(epoch int, x api.Change) string {
	b := append(binary.BigEndian.AppendUint16([]byte{86}, uint16(epoch)), byte(x.From), byte(x.View), byte(len(x.Certs)))
	for _, c := range x.Certs {
		b = binary.BigEndian.AppendUint16(append(b, byte(c.View)), uint16(c.Slot))
		b = append(append(b, textBytes(requestText(c.Req))...), byte(len(c.Sigs)))
		for _, s := range c.Sigs {
			b = append(append(b, byte(s.By)), textBytes(s.Text)...)
		}
	}
	return string(b)
}

// fitsCert tells if the certificate may stand behind the slot before.
func fitsCert(epoch, before int, c api.Cert) bool {
	strange := slices.ContainsFunc(c.Sigs, func(s api.Sig) bool { return !isIn(s.By, 0, lastBy) })
	return slices.Contains(slotsOf(epoch), c.Slot) && c.Slot > before && isIn(c.View, 0, lastView) &&
		(isNull(c.Req) || isRight(c.Req)) && len(c.Sigs) <= mostSigs && !strange
}

// fits tells if the change fits the epoch, whatever its Sig is.
func fits(epoch int, x api.Change) bool {
	if !isIn(epoch, 0, lastEpoch) || !isIn(x.From, 0, ids-1) || !isIn(x.View, 1, lastView) || len(x.Certs) > interval {
		return false
	}
	before := 0
	for _, c := range x.Certs {
		if !fitsCert(epoch, before, c) {
			return false
		}
		before = c.Slot
	}
	return true
}

// sizeOf answers how many bytes the text of a change that fits has. It is reckoned, since a text that is too long can't be written behind its length.
func sizeOf(x api.Change) int {
	size := 6
	for _, c := range x.Certs {
		size += 1 + 2 + 2 + len(requestText(c.Req)) + 1
		for _, s := range c.Sigs {
			size += 1 + 2 + len(s.Text)
		}
	}
	return size
}

func modelText(epoch int, x api.Change) (string, api.Errno) {
	if !fits(epoch, x) {
		return "", api.ErrArg
	}
	if sizeOf(x) > mostText {
		return "", api.ErrLong
	}
	return bytesOf(epoch, x), api.OK
}

// isProof tells if the list is just the signatures of the text by some members, rising, as many as a quorum at least.
func isProof(c api.Conf, text string, sigs []api.Sig) bool {
	var rising []api.Sig
	for _, id := range c.Members {
		if slices.Contains(sigs, api.Sig{By: id, Text: text}) {
			rising = append(rising, api.Sig{By: id, Text: text})
		}
	}
	return slices.Equal(sigs, rising) && len(rising) >= quorums()[len(c.Members)]
}

// modelRight asks for the errors from the last one on, so that the first one stands at the end.
func modelRight(c api.Conf, x api.Change) api.Errno {
	if !isRightConf(c) {
		return api.ErrArg
	}
	text, e := modelText(c.Epoch, x)
	if e != api.OK {
		return e
	}
	if x.Sig.By != x.From || x.Sig.Text != text {
		e = api.ErrSig
	}
	for i := len(x.Certs) - 1; i >= 0; i-- {
		cert := x.Certs[i]
		if !isProof(c, preparedText(c.Epoch, cert.View, cert.Slot, cert.Req), cert.Sigs) {
			e = api.ErrQuorum
		}
		if cert.View >= x.View {
			e = api.ErrView
		}
	}
	if !slices.Contains(c.Members, x.From) {
		e = api.ErrAbsent
	}
	return e
}

// modelRefuses asks for the errors of a list likewise.
func modelRefuses(c api.Conf, view int, l []api.Change) api.Errno {
	if !isRightConf(c) {
		return api.ErrArg
	}
	e := api.OK
	if len(l) < quorums()[len(c.Members)] {
		e = api.ErrQuorum
	}
	for i := range l {
		if slices.ContainsFunc(l[:i], func(x api.Change) bool { return x.From >= l[i].From }) {
			e = api.ErrOld
		}
	}
	for i := len(l) - 1; i >= 0; i-- {
		if wrong := modelRight(c, l[i]); wrong != api.OK {
			e = wrong
		}
	}
	if !isIn(view, 1, lastView) || slices.ContainsFunc(l, func(x api.Change) bool { return x.View != view }) {
		e = api.ErrView
	}
	return e
}

// best answers the request that is picked in the slot, and of which view its certificate is: views are tried from the greatest one on.
func best(l []api.Change, slot int) (api.Request, int, bool) {
	for view := lastView; view >= 0; view-- {
		for _, x := range l {
			for _, c := range x.Certs {
				if c.Slot == slot && c.View == view {
					return canonical(c.Req), view, true
				}
			}
		}
	}
	return null(), 0, false
}

// canonical answers the request with its real's bits.
func canonical(r api.Request) api.Request {
	r.Op.Real = math.Float64frombits(bitsOf(r.Op.Real))
	return r
}

func modelPick(c api.Conf, view int, l []api.Change) ([]api.Request, api.Errno) {
	if e := modelRefuses(c, view, l); e != api.OK {
		return nil, e
	}
	var list, up []api.Request
	for _, slot := range slotsOf(c.Epoch) {
		r, _, found := best(l, slot)
		up = append(up, r)
		if found {
			list = slices.Clone(up)
		}
	}
	return list, api.OK
}

// isSameRequest holds reals against each other by the very bits that they have.
func isSameRequest(a, b api.Request) bool {
	same := math.Float64bits(a.Op.Real) == math.Float64bits(b.Op.Real)
	a.Op.Real, b.Op.Real = 0, 0
	return same && a == b
}

// short answers what it is, cut, in letters that can be shown.
func short(v any) string {
	s := strings.ToValidUTF8(fmt.Sprintf("%+v", v), "?")
	if len(s) > 600 {
		return s[:600] + ".."
	}
	return s
}

// askText asks for a change's text, and holds it against the model's.
func askText(t *testing.T, epoch int, x api.Change) (string, api.Errno) {
	t.Helper()
	got, e := change.Text(epoch, x)
	want, f := modelText(epoch, x)
	if got != want || e != f {
		t.Fatalf("Text(%d, %s): %.200q %d, not %.200q %d", epoch, short(x), got, e, want, f)
	}
	return got, e
}

func askRight(t *testing.T, c api.Conf, x api.Change) api.Errno {
	t.Helper()
	got := change.Right(c, x)
	if want := modelRight(c, x); got != want {
		t.Fatalf("Right(%s, %s): %d, not %d", short(c), short(x), got, want)
	}
	return got
}

func askPick(t *testing.T, c api.Conf, view int, l []api.Change) ([]api.Request, api.Errno) {
	t.Helper()
	got, e := change.Pick(c, view, l)
	want, f := modelPick(c, view, l)
	if e != f || !slices.EqualFunc(got, want, isSameRequest) {
		t.Fatalf("Pick(%s, %d, %s): %s %d, not %s %d", short(c), view, short(l), short(got), e, short(want), f)
	}
	return got, e
}

// expectText expects an error of a change's text, or none.
func expectText(t *testing.T, name string, epoch int, x api.Change, want api.Errno) {
	t.Helper()
	if _, e := askText(t, epoch, x); e != want {
		t.Errorf("%s: Text(%d, %s): %d, not %d", name, epoch, short(x), e, want)
	}
}

func expectRight(t *testing.T, name string, c api.Conf, x api.Change, want api.Errno) {
	t.Helper()
	if e := askRight(t, c, x); e != want {
		t.Errorf("%s: Right(%s, %s): %d, not %d", name, short(c), short(x), e, want)
	}
}

// expectPick expects that these requests are picked.
func expectPick(t *testing.T, name string, c api.Conf, view int, l []api.Change, want ...api.Request) {
	t.Helper()
	got, e := askPick(t, c, view, l)
	if e != api.OK || !slices.EqualFunc(got, want, isSameRequest) {
		t.Errorf("%s: Pick(%s, %d, %s): %s %d, not %s", name, short(c), view, short(l), short(got), e, short(want))
	}
}

func expectNoPick(t *testing.T, name string, c api.Conf, view int, l []api.Change, want api.Errno) {
	t.Helper()
	got, e := askPick(t, c, view, l)
	if e != want || len(got) != 0 {
		t.Errorf("%s: Pick(%s, %d, %s): %s %d, not %d", name, short(c), view, short(l), short(got), e, want)
	}
}
