package wire_test

import (
	"encoding/binary"
	"fmt"
	"math"
	"reflect"
	"slices"
	"strings"
	"testing"

	"witan/api"
	"witan/wire"
)

const (
	interval   = 4
	lastEpoch  = 60
	lastView   = 15
	lastID     = 15
	lastBy     = 199
	mostSigs   = 16
	mostBytes  = 65536
	lastCode   = 8
	lastClient = 8
	lastStamp  = 1048576
	lastKey    = 16

	oneNaN uint64 = 0x7FF8000000000000
)

var minusNought = math.Copysign(0, -1)

func bitsOf(x float64) uint64 {
	if x != x {
		return oneNaN
	}
	return math.Float64bits(x)
}

// span is a least and a greatest number.
type span struct{ least, most int }

func (s span) has(n int) bool { return s.least <= n && n <= s.most }

// What a row may ask of a request.
const (
	nullOnly = iota
	rightOnly
	either
)

// row is a row of the chapter's table: how much of each field a kind has. The slots are counted from the one ahead of the epoch's first.
type row struct {
	epochs, views, slots span
	anySlot              bool // else the slot is 0
	req                  int
	result, text, next   bool
	sigs, changes        span
	byRequest            bool // none of Sigs beside the null request
	links                bool
}

func modelRow(kind int) (row, bool) {
	all, views, later, inside := span{0, lastEpoch}, span{0, lastView}, span{1, lastView}, span{1, interval}
	one := span{1, 1}
	r, known := map[int]row{
		1:  {epochs: span{0, 0}, req: rightOnly, sigs: one},
		2:  {epochs: all, views: views, slots: inside, anySlot: true, req: either, sigs: one, byRequest: true},
		3:  {epochs: all, views: views, slots: inside, anySlot: true, req: either, sigs: one},
		4:  {epochs: all, views: views, slots: inside, anySlot: true, req: either},
		5:  {epochs: all, slots: span{interval, interval}, anySlot: true, text: true, next: true, sigs: span{2, 2}},
		6:  {epochs: all, views: later, changes: one},
		7:  {epochs: all, views: later, changes: span{1, 10}},
		8:  {epochs: all, req: rightOnly, result: true},
		9:  {epochs: all},
		10: {epochs: span{1, lastEpoch}, slots: span{0, 0}, anySlot: true, text: true, sigs: span{0, mostSigs}, links: true},
	}[kind]
	return r, known
}

func modelNull(r api.Request) bool {
	return r.Client == 0 && r.Stamp == 0 && r.Op.Kind == 0 && r.Op.Key == "" && r.Op.ID == 0 && bitsOf(r.Op.Real) == 0
}

func modelRight(r api.Request) bool {
	if !(span{1, lastClient}).has(r.Client) || !(span{1, lastStamp}).has(r.Stamp) || !(span{1, 7}).has(r.Op.Kind) {
		return false
	}
	if r.Op.Kind >= 4 && bitsOf(r.Op.Real) != 0 {
		return false
	}
	if r.Op.Kind >= 6 {
		return r.Op.Key == "" && (span{0, lastID}).has(r.Op.ID)
	}
	return (span{1, lastKey}).has(len(r.Op.Key)) && r.Op.ID == 0
}

func modelRequest(r api.Request, ask int) bool {
	return ask != rightOnly && modelNull(r) || ask != nullOnly && modelRight(r)
}

func modelMembers(list []int) bool {
	set := map[int]bool{}
	for _, id := range list {
		if !(span{0, lastID}).has(id) {
			return false
		}
		set[id] = true
	}
	return (span{4, 10}).has(len(list)) && len(set) == len(list) && slices.IsSorted(list)
}

func modelSigs(list []api.Sig, counts span) bool {
	wrong := slices.ContainsFunc(list, func(s api.Sig) bool { return !(span{0, lastBy}).has(s.By) })
	return counts.has(len(list)) && !wrong
}

func modelCerts(epoch int, list []api.Cert) bool {
	before := interval * epoch
	for _, c := range list {
		if c.Slot <= before || c.Slot > interval*(epoch+1) {
			return false
		}
		before = c.Slot
		if !(span{0, lastView}).has(c.View) || !modelRequest(c.Req, either) || !modelSigs(c.Sigs, span{0, mostSigs}) {
			return false
		}
	}
	return len(list) <= interval
}

func modelChanges(m api.Msg, counts span) bool {
	before := -1
	for _, c := range m.Changes {
		if c.From <= before || c.From > lastID || c.View != m.View || !modelCerts(m.Epoch, c.Certs) || !modelSigs([]api.Sig{c.Sig}, span{1, 1}) {
			return false
		}
		before = c.From
	}
	return counts.has(len(m.Changes))
}

func modelLinks(m api.Msg, asked bool) bool {
	if !asked {
		return len(m.Links) == 0
	}
	for i, l := range m.Links {
		if l.Conf.Epoch != i+1 || !modelMembers(l.Conf.Members) || !modelSigs(l.Sigs, span{0, mostSigs}) {
			return false
		}
	}
	return len(m.Links) == m.Epoch
}

// modelFits tells if the message fits, by its kind's row.
func modelFits(m api.Msg) bool {
	r, known := modelRow(m.Kind)
	if !known || !r.epochs.has(m.Epoch) || !r.views.has(m.View) {
		return false
	}
	slots := span{}
	if r.anySlot {
		slots = span{interval*m.Epoch + r.slots.least, interval*m.Epoch + r.slots.most}
	}
	if r.byRequest && modelNull(m.Req) {
		r.sigs = span{}
	}
	result := r.result && (span{0, lastCode}).has(m.Result.Code) || m.Result.Code == 0 && bitsOf(m.Result.Real) == 0
	next := r.next && modelMembers(m.Next) || !r.next && len(m.Next) == 0
	return slots.has(m.Slot) && modelRequest(m.Req, r.req) && result && r.text == (len(m.Text) > 0) && next &&
		modelSigs(m.Sigs, r.sigs) && modelChanges(m, r.changes) && modelLinks(m, r.links)
}

// layout is a row of bytes to which fields are put, whether they may be or not.
type layout []byte

func (l *layout) byte(n int) { *l = append(*l, byte(n)) }
func (l *layout) word(n int) { *l = binary.BigEndian.AppendUint16(*l, uint16(n)) }
func (l *layout) text(s string) {
	l.word(len(s))
	*l = append(*l, s...)
}

func requestLayout(r api.Request) string {
	if modelNull(r) {
		return "\x00"
	}
	l := layout{1, byte(r.Client)}
	l = binary.BigEndian.AppendUint32(l, uint32(r.Stamp))
	l.byte(r.Op.Kind)
	l.text(r.Op.Key)
	l = binary.BigEndian.AppendUint64(l, bitsOf(r.Op.Real))
	l.byte(r.Op.ID)
	return string(l)
}

func resultLayout(x api.Result) string {
	return string(binary.BigEndian.AppendUint64([]byte{byte(x.Code)}, bitsOf(x.Real)))
}

func confLayout(c api.Conf) string {
	l := layout{'C'}
	l.word(c.Epoch)
	return string(l) + membersLayout(c.Members)
}

func membersLayout(list []int) string {
	l := layout{byte(len(list))}
	for _, id := range list {
		l.byte(id)
	}
	return string(l)
}

func textLayout(s string) string {
	var l layout
	l.text(s)
	return string(l)
}

func sigLayout(s api.Sig) string { return string([]byte{byte(s.By)}) + textLayout(s.Text) }

func sigsLayout(list []api.Sig) string {
	s := string([]byte{byte(len(list))})
	for _, one := range list {
		s += sigLayout(one)
	}
	return s
}

func certLayout(c api.Cert) string {
	l := layout{byte(c.View)}
	l.word(c.Slot)
	l.text(requestLayout(c.Req))
	return string(l) + sigsLayout(c.Sigs)
}

func changeLayout(c api.Change) string {
	s := string([]byte{byte(c.From), byte(c.View), byte(len(c.Certs))})
	for _, cert := range c.Certs {
		s += certLayout(cert)
	}
	return s + sigLayout(c.Sig)
}

func changesLayout(list []api.Change) string {
	s := string([]byte{byte(len(list))})
	for _, c := range list {
		s += changeLayout(c)
	}
	return s
}

func linkLayout(l api.Link) string { return textLayout(confLayout(l.Conf)) + sigsLayout(l.Sigs) }

func linksLayout(list []api.Link) string {
	s := string([]byte{byte(len(list))})
	for _, l := range list {
		s += linkLayout(l)
	}
	return s
}

// The places of a message's parts.
const (
	headAt = iota
	reqAt
	resultAt
	textAt
	nextAt
	sigsAt
	changesAt
	linksAt
)

// partsOf answers the parts of a message's bytes, one behind the other.
func partsOf(m api.Msg) []string {
	head := layout{byte(m.Kind)}
	head.word(m.Epoch)
	head.byte(m.View)
	head.word(m.Slot)
	return []string{
		headAt:    string(head),
		reqAt:     textLayout(requestLayout(m.Req)),
		resultAt:  textLayout(resultLayout(m.Result)),
		textAt:    textLayout(m.Text),
		nextAt:    membersLayout(m.Next),
		sigsAt:    sigsLayout(m.Sigs),
		changesAt: changesLayout(m.Changes),
		linksAt:   linksLayout(m.Links),
	}
}

func layoutOf(m api.Msg) string { return strings.Join(partsOf(m), "") }

// with answers the message's bytes with another part at the place.
func with(m api.Msg, place int, part string) string {
	parts := partsOf(m)
	parts[place] = part
	return strings.Join(parts, "")
}

// sizeOf answers how many bytes the message has, also where a text is too long to be laid out.
func sizeOf(m api.Msg) int {
	bare := m
	bare.Text = ""
	bare.Sigs = withoutTexts(m.Sigs)
	bare.Changes, bare.Links = nil, nil
	size := len(m.Text)
	for _, c := range m.Changes {
		c.Certs = slices.Clone(c.Certs)
		for i := range c.Certs {
			c.Certs[i].Sigs = withoutTexts(c.Certs[i].Sigs)
		}
		c.Sig.Text = ""
		bare.Changes = append(bare.Changes, c)
	}
	for _, l := range m.Links {
		l.Sigs = withoutTexts(l.Sigs)
		bare.Links = append(bare.Links, l)
	}
	for _, s := range modelTerms(m) {
		size += len(s.Text)
	}
	return size + len(layoutOf(bare))
}

func withoutTexts(list []api.Sig) []api.Sig {
	var bare []api.Sig
	for _, s := range list {
		bare = append(bare, api.Sig{By: s.By})
	}
	return bare
}

func modelBytes(m api.Msg) (string, api.Errno) {
	switch {
	case m.Kind < 1 || m.Kind > 10:
		return "", api.ErrKind
	case !modelFits(m):
		return "", api.ErrField
	case sizeOf(m) > mostBytes:
		return "", api.ErrLong
	}
	return layoutOf(m), api.OK
}

func modelTerms(m api.Msg) []api.Sig {
	all := [][]api.Sig{m.Sigs}
	for _, c := range m.Changes {
		for _, cert := range c.Certs {
			all = append(all, cert.Sigs)
		}
		all = append(all, []api.Sig{c.Sig})
	}
	for _, l := range m.Links {
		all = append(all, l.Sigs)
	}
	return slices.Concat(all...)
}

// cursor takes bytes off a text; once there were too few it is short, and takes nothing more.
type cursor struct {
	rest  string
	short bool
}

func (c *cursor) take(n int) string {
	if c.short || n > len(c.rest) {
		c.short = true
		return ""
	}
	taken := c.rest[:n]
	c.rest = c.rest[n:]
	return taken
}

func (c *cursor) number(size int) int {
	n := 0
	for _, b := range []byte(c.take(size)) {
		n = n<<8 | int(b)
	}
	return n
}

func (c *cursor) text() string { return c.take(c.number(2)) }

// times calls as often as the next byte says.
func (c *cursor) times(one func()) {
	for n := c.number(1); n > 0 && !c.short; n-- {
		one()
	}
}

func (c *cursor) request() api.Request {
	in := cursor{rest: c.text()}
	if in.number(1) == 0 {
		return api.Request{}
	}
	r := api.Request{Client: in.number(1), Stamp: in.number(4)}
	r.Op.Kind = in.number(1)
	r.Op.Key = in.text()
	r.Op.Real = math.Float64frombits(uint64(in.number(8)))
	r.Op.ID = in.number(1)
	return r
}

func (c *cursor) sig() api.Sig { return api.Sig{By: c.number(1), Text: c.text()} }

func (c *cursor) sigs() (list []api.Sig) {
	c.times(func() { list = append(list, c.sig()) })
	return list
}

func (c *cursor) change() api.Change {
	x := api.Change{From: c.number(1), View: c.number(1)}
	c.times(func() {
		x.Certs = append(x.Certs, api.Cert{View: c.number(1), Slot: c.number(2), Req: c.request(), Sigs: c.sigs()})
	})
	x.Sig = c.sig()
	return x
}

func (c *cursor) link() api.Link {
	in := cursor{rest: c.text()}
	var l api.Link
	in.take(1)
	l.Conf.Epoch = in.number(2)
	in.times(func() { l.Conf.Members = append(l.Conf.Members, in.number(1)) })
	l.Sigs = c.sigs()
	return l
}

// modelRead takes the only message whose bytes it could be, and looks if they are.
func modelRead(text string) (api.Msg, api.Errno) {
	if len(text) > mostBytes {
		return api.Msg{}, api.ErrLong
	}
	c := &cursor{rest: text}
	m := api.Msg{Kind: c.number(1), Epoch: c.number(2), View: c.number(1), Slot: c.number(2), Req: c.request()}
	in := cursor{rest: c.text()}
	m.Result.Code = in.number(1)
	m.Result.Real = math.Float64frombits(uint64(in.number(8)))
	m.Text = c.text()
	c.times(func() { m.Next = append(m.Next, c.number(1)) })
	m.Sigs = c.sigs()
	c.times(func() { m.Changes = append(m.Changes, c.change()) })
	c.times(func() { m.Links = append(m.Links, c.link()) })
	if c.short || !modelFits(m) || layoutOf(m) != text {
		return api.Msg{}, api.ErrBytes
	}
	return m, api.OK
}

// plain answers the message as a text, its reals by their own bits, lists without elements all alike: two have one text just if they are the same to the last bit.
func plain(m api.Msg) string {
	bits := []uint64{math.Float64bits(m.Req.Op.Real), math.Float64bits(m.Result.Real)}
	c := copied(m)
	c.Req.Op.Real, c.Result.Real = 0, 0
	for i := range c.Changes {
		for j := range c.Changes[i].Certs {
			op := &c.Changes[i].Certs[j].Req.Op
			bits = append(bits, math.Float64bits(op.Real))
			op.Real = 0
		}
	}
	return fmt.Sprintf("%q %x", fmt.Sprintf("%#v", c), bits)
}

// copied answers the message in new memory, with nil in the place of lists without elements.
func copied(m api.Msg) api.Msg {
	m.Next = append([]int(nil), m.Next...)
	m.Sigs = append([]api.Sig(nil), m.Sigs...)
	m.Changes = append([]api.Change(nil), m.Changes...)
	for i := range m.Changes {
		c := &m.Changes[i]
		c.Certs = append([]api.Cert(nil), c.Certs...)
		for j := range c.Certs {
			c.Certs[j].Sigs = append([]api.Sig(nil), c.Certs[j].Sigs...)
		}
	}
	m.Links = append([]api.Link(nil), m.Links...)
	for i := range m.Links {
		l := &m.Links[i]
		l.Conf.Members = append([]int(nil), l.Conf.Members...)
		l.Sigs = append([]api.Sig(nil), l.Sigs...)
	}
	return m
}

// canon answers the message as it is answered: its NaNs are the one NaN.
func canon(m api.Msg) api.Msg {
	m = copied(m)
	canonReal(&m.Req.Op.Real)
	canonReal(&m.Result.Real)
	for i := range m.Changes {
		for j := range m.Changes[i].Certs {
			canonReal(&m.Changes[i].Certs[j].Req.Op.Real)
		}
	}
	return m
}

func canonReal(x *float64) { *x = math.Float64frombits(bitsOf(*x)) }

// short answers a text for a test's message.
func short(s string) string {
	if len(s) > 400 {
		return fmt.Sprintf("%s .. (%d in all)", s[:400], len(s))
	}
	return s
}

// expectBytes holds what Bytes and Terms answer of the message against the model, reads the bytes again, and looks that the message stays as it was.
func expectBytes(t *testing.T, what string, m api.Msg) {
	t.Helper()
	before := plain(m)
	want, wantErr := modelBytes(m)
	got, e := wire.Bytes(m)
	if got != want || e != wantErr {
		t.Errorf("%s: Bytes(%s): %q %d, not %q %d", what, short(before), short(got), e, short(want), wantErr)
	}
	if all := wire.Terms(m); !slices.Equal(all, modelTerms(m)) {
		t.Errorf("%s: Terms(%s): %v", what, short(before), all)
	}
	if plain(m) != before {
		t.Errorf("%s: %s was changed", what, short(before))
	}
	if e != api.OK {
		return
	}
	back, e := wire.Read(got)
	if e != api.OK || plain(back) != plain(canon(m)) {
		t.Errorf("%s: %s is read again as %s %d", what, short(before), short(plain(back)), e)
	}
	if again, e := wire.Bytes(back); e != api.OK || again != got {
		t.Errorf("%s: what was read of %s has other bytes: %q %d", what, short(before), short(again), e)
	}
}

// expectError asks for just this error, whatever the model says.
func expectError(t *testing.T, what string, m api.Msg, want api.Errno) {
	t.Helper()
	expectBytes(t, what, m)
	if s, e := wire.Bytes(m); e != want || e != api.OK && s != "" {
		t.Errorf("%s: Bytes(%s): %q %d, not %d", what, short(plain(m)), short(s), e, want)
	}
}

// expectRead holds what is read of the text against the model.
func expectRead(t *testing.T, what, text string) {
	t.Helper()
	want, wantErr := modelRead(text)
	got, e := wire.Read(text)
	if wantErr == api.ErrBytes {
		expectNone(t, what, text)
		return
	}
	if e != wantErr || plain(got) != plain(want) {
		t.Errorf("%s: Read(%q): %s %d, not %s %d", what, short(text), short(plain(got)), e, short(plain(want)), wantErr)
	}
	if e != api.OK {
		return
	}
	if again, e := wire.Bytes(got); e != api.OK || again != text {
		t.Errorf("%s: what is read of %q is told as %q %d", what, short(text), short(again), e)
	}
}

// expectNone asks that nothing is made of the text, whatever the model says.
func expectNone(t *testing.T, what, text string) {
	t.Helper()
	if m, e := wire.Read(text); e != api.ErrBytes || !reflect.DeepEqual(m, api.Msg{}) {
		t.Errorf("%s: Read(%q): %s %d", what, short(text), short(plain(m)), e)
	}
}
