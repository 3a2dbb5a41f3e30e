package ledger_test

import (
	"encoding/binary"
	"fmt"
	"math"
	"slices"
	"strings"
	"testing"

	"witan/api"
	"witan/ledger"
)

const (
	interval   = 4
	least      = 4
	most       = 10
	ids        = 16
	lastClient = 8
	lastStamp  = 1048576
	lastKey    = 16
	mostKeys   = 16
	lastEpoch  = 60
	lastCode   = 8

	oneNaN uint64 = 0x7FF8000000000000
)

var minusNought = math.Copysign(0, -1)

// modelBits answers the bits by which all know a real.
func modelBits(x float64) uint64 {
	if x != x {
		return oneNaN
	}
	return math.Float64bits(x)
}

// modelReal tells if there is a real whose bits these are.
func modelReal(n uint64) bool { return n == oneNaN || n&^(1<<63) <= 0x7FF0000000000000 }

// modelMost answers the bits of the greater one.
func modelMost(a, b float64) uint64 {
	switch {
	case a != a || b != b:
		return oneNaN
	case a == 0 && b == 0 && (!math.Signbit(a) || !math.Signbit(b)):
		return 0
	case a > b:
		return math.Float64bits(a)
	}
	return math.Float64bits(b)
}

// set is a set of replicas, by number.
type set [ids]bool

func setOf(members []int) set {
	var s set
	for _, id := range members {
		s[id] = true
	}
	return s
}

func (s set) list() []int {
	var list []int
	for id, is := range s {
		if is {
			list = append(list, id)
		}
	}
	return list
}

// areMembers tells if the list is what a set of a right number tells.
func areMembers(list []int) bool {
	for _, id := range list {
		if id < 0 || id >= ids {
			return false
		}
	}
	return slices.Equal(setOf(list).list(), list) && len(list) >= least && len(list) <= most
}

// entry is a key, and its real's bits.
type entry struct {
	key  string
	bits uint64
}

// deed is a client's last request.
type deed struct {
	stamp, code int
	bits        uint64
}

// model is a ledger by the chapter's words: members are sets, and keys lie in a list, in the order in which they were put.
type model struct {
	epoch   int
	members set
	next    set
	done    int
	keys    []entry
	last    [lastClient + 1]deed
}

func modelOf(members []int) *model {
	return &model{members: setOf(members), next: setOf(members)}
}

func (m *model) full() bool { return m.done == interval*m.epoch+interval }

func (m *model) copied() *model {
	other := *m
	other.keys = slices.Clone(m.keys)
	return &other
}

func (m *model) find(key string) int {
	return slices.IndexFunc(m.keys, func(x entry) bool { return x.key == key })
}

// modelRight tells if the request is right or null.
func modelRight(r api.Request) bool {
	o := r.Op
	noReal := math.Float64bits(o.Real) == 0
	if r.Client == 0 && r.Stamp == 0 && o.Kind == 0 && o.Key == "" && noReal && o.ID == 0 {
		return true
	}
	if r.Client < 1 || r.Client > lastClient || r.Stamp < 1 || r.Stamp > lastStamp || o.Kind < 1 || o.Kind > 7 {
		return false
	}
	if o.Kind >= 6 {
		return o.Key == "" && noReal && o.ID >= 0 && o.ID < ids
	}
	return o.Key != "" && len(o.Key) <= lastKey && o.ID == 0 && (o.Kind <= 3 || noReal)
}

// do answers the code, the real's bits, and the error.
func (m *model) do(r api.Request) (int, uint64, api.Errno) {
	if !modelRight(r) {
		return 0, 0, api.ErrArg
	}
	if m.full() {
		return 0, 0, api.ErrState
	}
	m.done++
	if r.Client == 0 {
		return 8, 0, api.OK
	}
	mine := &m.last[r.Client]
	if r.Stamp < mine.stamp {
		return 7, 0, api.OK
	}
	if r.Stamp > mine.stamp {
		code, bits := m.effect(r.Op)
		*mine = deed{stamp: r.Stamp, code: code, bits: bits}
	}
	return mine.code, mine.bits, api.OK
}

func (m *model) effect(o api.Op) (int, uint64) {
	if o.Kind == 6 || o.Kind == 7 {
		return m.comeOrGo(o), 0
	}
	at := m.find(o.Key)
	if o.Kind == 1 && at < 0 {
		if len(m.keys) == mostKeys {
			return 2, 0
		}
		m.keys = append(m.keys, entry{key: o.Key})
		at = len(m.keys) - 1
	}
	if at < 0 {
		return 1, 0
	}
	x := math.Float64frombits(m.keys[at].bits)
	told := m.keys[at].bits
	switch o.Kind {
	case 1:
		told = modelBits(o.Real)
	case 2:
		told = modelBits(x + o.Real)
	case 3:
		told = modelMost(x, o.Real)
	}
	m.keys[at].bits = told
	if o.Kind == 4 {
		m.keys = slices.Delete(m.keys, at, at+1)
	}
	return 0, told
}

func (m *model) comeOrGo(o api.Op) int {
	count := len(m.next.list())
	switch {
	case o.Kind == 6 && m.next[o.ID]:
		return 3
	case o.Kind == 6 && count == most:
		return 6
	case o.Kind == 7 && !m.next[o.ID]:
		return 4
	case o.Kind == 7 && count == least:
		return 5
	}
	m.next[o.ID] = o.Kind == 6
	return 0
}

func (m *model) turn() api.Errno {
	if !m.full() {
		return api.ErrState
	}
	if m.epoch == lastEpoch {
		return api.ErrLong
	}
	m.epoch++
	m.members = m.next
	return api.OK
}

// parts answers the bytes of a ledger piece by piece, so that a test can put another piece into a place. The pieces: mark, configuration, members to be, slots, keys, clients.
func (m *model) parts() []string {
	conf := []byte{67, byte(m.epoch >> 8), byte(m.epoch)}
	members := countedBytes(m.members.list())
	head := append(binary.BigEndian.AppendUint16(nil, uint16(len(conf)+len(members))), conf...)
	keys := []byte{byte(len(m.keys))}
	for _, x := range m.sorted() {
		keys = append(keys, keyBytes(x.key, x.bits)...)
	}
	var clients []byte
	for _, d := range m.last[1:] {
		clients = append(clients, deedBytes(d.stamp, d.code, d.bits)...)
	}
	return []string{
		"L",
		string(head) + members,
		countedBytes(m.next.list()),
		longBytes(m.done),
		string(keys),
		string(clients),
	}
}

func (m *model) text() string { return strings.Join(m.parts(), "") }

func (m *model) sorted() []entry {
	list := slices.Clone(m.keys)
	slices.SortFunc(list, func(a, b entry) int { return strings.Compare(a.key, b.key) })
	return list
}

// countedBytes answers how many there are, and each, as bytes.
func countedBytes(members []int) string {
	bytes := []byte{byte(len(members))}
	for _, id := range members {
		bytes = append(bytes, byte(id))
	}
	return string(bytes)
}

func longBytes(n int) string { return string(binary.BigEndian.AppendUint32(nil, uint32(n))) }

func bitsBytes(n uint64) string { return string(binary.BigEndian.AppendUint64(nil, n)) }

func textBytes(s string) string {
	return string(binary.BigEndian.AppendUint16(nil, uint16(len(s)))) + s
}

func keyBytes(key string, bits uint64) string { return textBytes(key) + bitsBytes(bits) }

func deedBytes(stamp, code int, bits uint64) string {
	return longBytes(stamp) + textBytes(string([]byte{byte(code)})+bitsBytes(bits))
}

// cursor takes a text apart. Once there was too little it stays at its end.
type cursor struct {
	rest  string
	short bool
}

func (c *cursor) take(n int) string {
	if len(c.rest) < n {
		c.short, c.rest = true, ""
		return strings.Repeat("\x00", n)
	}
	taken := c.rest[:n]
	c.rest = c.rest[n:]
	return taken
}

func (c *cursor) number(size int) int {
	n := 0
	for _, b := range []byte(c.take(size)) {
		n = n<<8 | int(b)
	}
	return n
}

func (c *cursor) bits() uint64 { return binary.BigEndian.Uint64([]byte(c.take(8))) }

// modelOpen takes the text apart without asking anything but the ranges; it is a ledger's bytes, if what came out of it is told as just this text.
func modelOpen(text string) (*model, bool) {
	c := &cursor{rest: text}
	m := &model{}
	c.take(1 + 2 + 1)
	m.epoch = c.number(2)
	fits := c.members(&m.members)
	fits = c.members(&m.next) && fits
	m.done = c.number(4)
	fits = fits && m.epoch <= lastEpoch && m.done >= interval*m.epoch && m.done <= interval*m.epoch+interval
	for range min(c.number(1), mostKeys) {
		key := c.take(c.number(2))
		bits := c.bits()
		m.keys = append(m.keys, entry{key: key, bits: bits})
		fits = fits && key != "" && len(key) <= lastKey && modelReal(bits)
	}
	for i, x := range m.sorted() {
		fits = fits && m.keys[i].key == x.key && m.find(x.key) == i
	}
	for client := 1; client <= lastClient; client++ {
		d := deed{stamp: c.number(4)}
		c.take(2)
		d.code, d.bits = c.number(1), c.bits()
		m.last[client] = d
		fits = fits && d.stamp <= lastStamp && d.code <= lastCode && modelReal(d.bits) && (d.stamp > 0 || d == deed{})
	}
	if !fits || c.short || m.text() != text {
		return nil, false
	}
	return m, true
}

func (c *cursor) members(s *set) bool {
	var list []int
	for range min(c.number(1), most+1) {
		list = append(list, c.number(1))
	}
	if !areMembers(list) {
		return false
	}
	*s = setOf(list)
	return true
}

// askedKeys are those of which each ledger is asked, whatever it has.
func askedKeys() []string {
	list := []string{"", "\x00", "\xff", "k", "kk", "K", "k\x00", "a", "ab", "b", "0123456789abcdef", "0123456789abcdefg", strings.Repeat("\xff", 16), "zz"}
	for i := range mostKeys + 4 {
		list = append(list, keyOf(i))
	}
	return list
}

// keyOf answers the key of a number, of each length; in the order they don't stand by their numbers.
func keyOf(n int) string { return strings.Repeat(string([]byte{byte(200 - 37*n)}), 1+n%16) }

func askedClients() []int {
	return []int{math.MinInt, -8, -1, 0, 1, 2, 3, 4, 5, 6, 7, 8, 9, 10, 101, 108, 256, 257, math.MaxInt}
}

// told is all that a ledger's calls tell of it, its reals by their bits.
func told(l *ledger.Ledger, more ...string) string {
	var s strings.Builder
	c := l.Conf()
	fmt.Fprint(&s, c.Epoch, c.Members, l.Next(), l.Done(), l.Full())
	for _, key := range append(askedKeys(), more...) {
		x, found := l.Get(key)
		fmt.Fprintf(&s, " %q %x %v", key, math.Float64bits(x), found)
	}
	for _, client := range askedClients() {
		stamp, x := l.Last(client)
		fmt.Fprintf(&s, " %d: %d %d %x", client, stamp, x.Code, math.Float64bits(x.Real))
	}
	return s.String()
}

// told is what a ledger that is as the model must tell.
func (m *model) told(more ...string) string {
	var s strings.Builder
	fmt.Fprint(&s, m.epoch, m.members.list(), m.next.list(), m.done, m.full())
	for _, key := range append(askedKeys(), more...) {
		x := entry{key: key}
		at := m.find(key)
		if at >= 0 {
			x = m.keys[at]
		}
		fmt.Fprintf(&s, " %q %x %v", key, x.bits, at >= 0)
	}
	for _, client := range askedClients() {
		d := deed{}
		if client >= 1 && client <= lastClient {
			d = m.last[client]
		}
		fmt.Fprintf(&s, " %d: %d %d %x", client, d.stamp, d.code, d.bits)
	}
	return s.String()
}

// keysOf answers the model's keys, so that all of them are asked.
func (m *model) keysOf() []string {
	var list []string
	for _, x := range m.keys {
		list = append(list, x.key)
	}
	return list
}

// expectStands holds all that the ledger tells against the model, and P12.4's words.
func expectStands(t *testing.T, l *ledger.Ledger, m *model) {
	t.Helper()
	more := m.keysOf()
	if got, want := told(l, more...), m.told(more...); got != want {
		t.Fatalf("it stands as\n%s, not\n%s", got, want)
	}
	if got, want := l.Text(), m.text(); got != want {
		t.Fatalf("its bytes are\n%q, not\n%q", got, want)
	}
	if !areMembers(l.Conf().Members) || !areMembers(l.Next()) {
		t.Fatalf("members that aren't right: %v %v", l.Conf(), l.Next())
	}
}

// expectOpens holds what is opened of a text against the model.
func expectOpens(t *testing.T, text string) *ledger.Ledger {
	t.Helper()
	m, is := modelOpen(text)
	l, e := ledger.Open(text)
	if !is {
		if l != nil || e != api.ErrBytes {
			t.Fatalf("Open(%.700q of %d): %v %d", text, len(text), l != nil, e)
		}
		return nil
	}
	if l == nil || e != api.OK {
		t.Fatalf("Open(%.700q of %d): %v %d", text, len(text), l != nil, e)
	}
	expectStands(t, l, m)
	return l
}

func expectNoLedger(t *testing.T, what, text string) {
	t.Helper()
	if l, e := ledger.Open(text); l != nil || e != api.ErrBytes {
		t.Errorf("%s: Open(%.700q of %d): %v %d", what, text, len(text), l != nil, e)
	}
	if _, is := modelOpen(text); is {
		t.Errorf("%s: the model opens %.700q", what, text)
	}
}

// pair is a ledger, and the model beside it.
type pair struct {
	t *testing.T
	l *ledger.Ledger
	m *model
}

func pairOf(t *testing.T, members ...int) *pair {
	t.Helper()
	l, e := ledger.New(api.Conf{Members: slices.Clone(members)})
	if e != api.OK {
		t.Fatalf("New of %v: %d", members, e)
	}
	p := &pair{t: t, l: l, m: modelOf(members)}
	expectStands(t, p.l, p.m)
	return p
}

func four(t *testing.T) *pair {
	t.Helper()
	return pairOf(t, 0, 1, 2, 3)
}

// do does a request in both, and holds all of the one against the other.
func (p *pair) do(r api.Request) (api.Result, api.Errno) {
	p.t.Helper()
	code, bits, want := p.m.do(r)
	x, e := p.l.Do(r)
	if x.Code != code || math.Float64bits(x.Real) != bits || e != want {
		p.t.Fatalf("Do of %+v (%x): %d %x %d, not %d %x %d", r, math.Float64bits(r.Op.Real), x.Code, math.Float64bits(x.Real), e, code, bits, want)
	}
	expectStands(p.t, p.l, p.m)
	return x, e
}

func (p *pair) turn() api.Errno {
	p.t.Helper()
	want := p.m.turn()
	e := p.l.Turn()
	if e != want {
		p.t.Fatalf("Turn: %d, not %d", e, want)
	}
	expectStands(p.t, p.l, p.m)
	return e
}

// room turns it, if it is full.
func (p *pair) room() *pair {
	p.t.Helper()
	if p.l.Full() && p.turn() != api.OK {
		p.t.Fatal("no room")
	}
	return p
}

// comes does a request, and asks besides what it must come to.
func (p *pair) comes(r api.Request, code int, x float64) {
	p.t.Helper()
	got, e := p.room().do(r)
	if e != api.OK || got.Code != code || math.Float64bits(got.Real) != math.Float64bits(x) {
		p.t.Errorf("%+v comes to %d %v %d, not to %d %v", r, got.Code, got.Real, e, code, x)
	}
}

// refuses does a request that is refused, and asks that nothing changed.
func (p *pair) refuses(r api.Request, want api.Errno) {
	p.t.Helper()
	before := p.l.Text()
	x, e := p.do(r)
	if e != want || x != (api.Result{}) || math.Signbit(x.Real) || p.l.Text() != before {
		p.t.Errorf("%+v: %v %d, not %d", r, x, e, want)
	}
}

// request answers a request of these fields.
func request(client, stamp, kind int, key string, real float64, id int) api.Request {
	return api.Request{Client: client, Stamp: stamp, Op: api.Op{Kind: kind, Key: key, Real: real, ID: id}}
}

func put(client, stamp int, key string, x float64) api.Request {
	return request(client, stamp, api.OpPut, key, x, 0)
}

func get(client, stamp int, key string) api.Request {
	return request(client, stamp, api.OpGet, key, 0, 0)
}

func cut(client, stamp int, key string) api.Request {
	return request(client, stamp, api.OpCut, key, 0, 0)
}

func join(client, stamp, id int) api.Request { return request(client, stamp, api.OpJoin, "", 0, id) }

func leave(client, stamp, id int) api.Request { return request(client, stamp, api.OpLeave, "", 0, id) }

// someReals answers the edges that the chapters name, other NaNs among them.
func someReals() []float64 {
	list := []float64{
		0, minusNought, 1, -1, 0.1, 0.2, -0.1, 1e16, math.Pi,
		math.SmallestNonzeroFloat64, -math.SmallestNonzeroFloat64, math.MaxFloat64, -math.MaxFloat64,
		math.Inf(1), math.Inf(-1),
	}
	for _, n := range []uint64{oneNaN, 0x7FF0000000000001, 0x7FF8000000000001, 0xFFF8000000000000, 0xFFFFFFFFFFFFFFFF, 1 << 52, 0x7FEFFFFFFFFFFFFE} {
		list = append(list, math.Float64frombits(n))
	}
	return list
}

// firstMembers answers the numbers from 0 on.
func firstMembers(n int) []int {
	var list []int
	for id := range n {
		list = append(list, id)
	}
	return list
}
