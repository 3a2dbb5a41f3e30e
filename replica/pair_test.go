package replica_test

import (
	"fmt"
	"math"
	"slices"
	"strings"
	"testing"
	"unsafe"

	"witan/api"
	"witan/replica"
	"witan/wire"
)

// pair is a replica and its model, which are told the same. Behind each call all that can be asked is asked, what was handed in is as it was and then spoilt, and so is what was answered, once it is told.
type pair struct {
	t     *testing.T
	r     *replica.Replica
	m     *model
	row   []call            // what was called, to be told where something is wrong
	bound int               // how many messages it said at most
	seen  map[string]string // the request that it signed to have prepared, by epoch, view and slot
	signs map[string]int    // the texts that it signed
	was   standing
}

// call is a message that was handed in, or a tick, if its kind is 0.
type call struct {
	now, from int
	msg       api.Msg
}

func (c call) String() string {
	if c.msg.Kind == 0 && c.from < 0 {
		return fmt.Sprint("tick ", c.now)
	}
	return fmt.Sprint("handle ", c.now, " ", c.from, " ", tellMsg(c.msg))
}

func pairOf(t *testing.T, id int, members ...int) *pair {
	t.Helper()
	first := conf(0, members...)
	r, e := replica.New(id, first)
	if e != api.OK {
		t.Fatalf("New(%d, %v): %d", id, members, e)
	}
	spoilInts(first.Members)
	p := &pair{t: t, r: r, m: modelOf(id, conf(0, members...)), seen: map[string]string{}, signs: map[string]int{}}
	p.expectAsked()
	return p
}

// handle hands a message to both, and answers what they answered.
func (p *pair) handle(now, from int, x api.Msg) []api.Packet {
	p.t.Helper()
	p.row = append(p.row, call{now, from, clone(x)})
	want := p.m.handle(now, from, clone(x))
	handed, spoil := lend(x)
	got := p.r.Handle(now, from, handed)
	if !isEqual(handed, x) {
		p.fail("what was handed in was %s and is %s", tellMsg(x), tellMsg(handed))
	}
	spoil()
	return p.compare(got, want)
}

// tick lets time go on for both.
func (p *pair) tick(now int) []api.Packet {
	p.t.Helper()
	p.row = append(p.row, call{now: now, from: -1})
	want := p.m.tick(now)
	got := p.r.Tick(now)
	if now%again == 0 && !p.r.Halted() {
		p.expectBound(got)
	}
	return p.compare(got, want)
}

func (p *pair) fail(format string, args ...any) {
	p.t.Helper()
	var row strings.Builder
	for _, c := range p.row[max(0, len(p.row)-40):] {
		row.WriteString(c.String() + "\n")
	}
	p.t.Fatalf("the replica %d behind:\n%s%s", p.m.id, row.String(), fmt.Sprintf(format, args...))
}

// compare holds the packets against each other one by one. Each is spoilt ahead of the next one, so that none may share memory with another one.
func (p *pair) compare(got, want []api.Packet) []api.Packet {
	p.t.Helper()
	if len(got) != len(want) {
		p.fail("answered %s\nasked %s", tellAll(got), tellAll(want))
	}
	for i := range got {
		if got[i].From != want[i].From || got[i].To != want[i].To || !isEqual(got[i].Msg, want[i].Msg) {
			p.fail("the packet %d\nis    %s\nasked %s", i, tellPacket(got[i]), tellPacket(want[i]))
		}
		if _, e := wire.Bytes(got[i].Msg); e != api.OK {
			p.fail("the packet %d doesn't fit: %d", i, e)
		}
		p.noteSigned(got[i].Msg)
		spoilMsg(got[i].Msg)
		got[i] = api.Packet{From: -1, To: -1}
	}
	p.expectAsked()
	return want
}

// expectAsked asks all that can be asked, twice: the second time what was answered the first time is spoilt.
func (p *pair) expectAsked() {
	p.t.Helper()
	want := standing{
		p.m.id, p.m.epoch(), p.m.view, p.m.active, p.m.ledger.Done(), p.m.left, p.m.halted, len(p.m.words), p.m.ledger.Text(),
	}
	for range 2 {
		got := standing{
			p.r.ID(), p.r.Epoch(), p.r.View(), p.r.Active(), p.r.Done(), p.r.Left(), p.r.Halted(), p.r.Size(), p.r.State(),
		}
		if got != want {
			p.fail("is    %+v\nasked %+v", got, want)
		}
		p.expectGrown(got)
		chain, history := p.r.Chain(), p.r.History()
		if !slices.EqualFunc(chain, p.m.chain, isEqualLink) {
			p.fail("the chain\nis    %s\nasked %s", tellLinks(chain), tellLinks(p.m.chain))
		}
		if !slices.EqualFunc(history, p.m.history, isEqualEntry) {
			p.fail("the history\nis    %s\nasked %s", tellEntries(history), tellEntries(p.m.history))
		}
		spoilLinks(chain)
		for i := range history {
			history[i] = api.Entry{Slot: -1}
		}
	}
	if n := len(p.m.members()); want.size > interval*(1+2*n) {
		p.fail("the log has %d of %d members", want.size, n)
	}
	if len(p.m.waits) > clients || len(p.m.changes) > len(p.m.members()) {
		p.fail("%d wait, %d changes came", len(p.m.waits), len(p.m.changes))
	}
}

// standing is all that can be asked but lists.
type standing struct {
	id, epoch, view int
	active          bool
	done, left      int
	halted          bool
	size            int
	state           string
}

// noteSigned keeps what it signed: at most one request in one epoch, view and slot, and no more texts than leaves that were used.
func (p *pair) noteSigned(x api.Msg) {
	p.t.Helper()
	switch x.Kind {
	case api.MPrepare:
		place := fmt.Sprint(x.Epoch, " ", x.View, " ", x.Slot)
		text := textOf(x.Req)
		if was, ok := p.seen[place]; ok && was != text {
			p.fail("prepared two requests in %s: %x and %x", place, was, text)
		}
		p.seen[place] = text
		p.signs[x.Sigs[0].Text]++
	case api.MVote:
		p.signs[x.Sigs[0].Text]++
		p.signs[x.Sigs[1].Text]++
	case api.MChange:
		p.signs[x.Changes[0].Sig.Text]++
	}
	if len(p.signs) > leaves-p.r.Left() {
		p.fail("signed %d texts, and has %d leaves left", len(p.signs), p.r.Left())
	}
}

// expectGrown holds how it stands against how it stood: no epoch falls, no view within an epoch, no leaf comes again, and who is halted stays as it is.
func (p *pair) expectGrown(now standing) {
	p.t.Helper()
	was := p.was
	p.was = now
	if now.epoch < was.epoch || now.epoch == was.epoch && now.view < was.view || now.done < was.done || now.left < 0 || now.left > leaves {
		p.fail("was %+v\nis  %+v", was, now)
	}
	if was.state != "" && now.left > was.left || was.halted && now != was {
		p.fail("was %+v\nis  %+v", was, now)
	}
}

// expectBound holds what it says, as it tells it again at this tick, to the bound: three messages a slot, and three more.
func (p *pair) expectBound(told []api.Packet) {
	p.t.Helper()
	kinds := map[string]int{}
	for _, x := range told {
		if x.To == told[len(told)-1].To && x.Msg.Kind != api.MFetch {
			kinds[tellMsg(x.Msg)]++
		}
	}
	p.bound = max(p.bound, len(kinds))
	if len(kinds) > 3*interval+3 {
		p.fail("says %d messages", len(kinds))
	}
}

// expect holds an answer against packets that are written out: to whom, and what.
func (p *pair) expect(got []api.Packet, want ...api.Packet) {
	p.t.Helper()
	if tellAll(got) != tellAll(want) {
		p.fail("answered %s\nasked %s", tellAll(got), tellAll(want))
	}
}

// expectNone holds an answer to be none.
func (p *pair) expectNone(got []api.Packet) {
	p.t.Helper()
	p.expect(got)
}

// to answers packets of the messages, each to all of these ones, message by message.
func (p *pair) to(ids []int, list ...api.Msg) []api.Packet {
	var all []api.Packet
	for _, x := range list {
		for _, id := range ids {
			all = append(all, api.Packet{From: p.m.id, To: id, Msg: x})
		}
	}
	return all
}

// reply answers the packet by which a client is told what its request came to.
func (p *pair) reply(epoch int, q api.Request, x api.Result) api.Packet {
	return api.Packet{From: p.m.id, To: node + q.Client, Msg: replyMsg(epoch, q, x)}
}

// stands holds what can be asked in short against what is written out.
func (p *pair) stands(epoch, view int, active bool, done, left int) {
	p.t.Helper()
	got := fmt.Sprint(p.r.Epoch(), p.r.View(), p.r.Active(), p.r.Done(), p.r.Left())
	if want := fmt.Sprint(epoch, view, active, done, left); got != want {
		p.fail("stands %s, asked %s", got, want)
	}
}

// Comparing: reals by their bits, and lists that are nil as those that are empty.

func isEqualReq(a, b api.Request) bool {
	same := math.Float64bits(a.Op.Real) == math.Float64bits(b.Op.Real)
	a.Op.Real, b.Op.Real = 0, 0
	return same && a == b
}

func isEqualEntry(a, b api.Entry) bool { return a.Slot == b.Slot && isEqualReq(a.Req, b.Req) }

func isEqualCert(a, b api.Cert) bool {
	return a.View == b.View && a.Slot == b.Slot && isEqualReq(a.Req, b.Req) && slices.Equal(a.Sigs, b.Sigs)
}

func isEqualChange(a, b api.Change) bool {
	return a.From == b.From && a.View == b.View && a.Sig == b.Sig && slices.EqualFunc(a.Certs, b.Certs, isEqualCert)
}

func isEqualLink(a, b api.Link) bool {
	return a.Conf.Epoch == b.Conf.Epoch && slices.Equal(a.Conf.Members, b.Conf.Members) && slices.Equal(a.Sigs, b.Sigs)
}

func isEqual(a, b api.Msg) bool {
	return a.Kind == b.Kind && a.Epoch == b.Epoch && a.View == b.View && a.Slot == b.Slot && isEqualReq(a.Req, b.Req) &&
		a.Result.Code == b.Result.Code && math.Float64bits(a.Result.Real) == math.Float64bits(b.Result.Real) &&
		a.Text == b.Text && slices.Equal(a.Next, b.Next) && slices.Equal(a.Sigs, b.Sigs) &&
		slices.EqualFunc(a.Changes, b.Changes, isEqualChange) && slices.EqualFunc(a.Links, b.Links, isEqualLink)
}

// Telling: each thing as a text in which reals stand as their bits.

func tellReq(q api.Request) string {
	return fmt.Sprintf("(%d %d %d %q %016x %d)", q.Client, q.Stamp, q.Op.Kind, q.Op.Key, math.Float64bits(q.Op.Real), q.Op.ID)
}

func tellSigs(list []api.Sig) string {
	var b strings.Builder
	for _, s := range list {
		fmt.Fprintf(&b, "<%d %x>", s.By, s.Text)
	}
	return b.String()
}

func tellLinks(list []api.Link) string {
	var b strings.Builder
	for _, l := range list {
		fmt.Fprintf(&b, "{%d %v %s}", l.Conf.Epoch, l.Conf.Members, tellSigs(l.Sigs))
	}
	return b.String()
}

func tellEntries(list []api.Entry) string {
	var b strings.Builder
	for _, x := range list {
		fmt.Fprintf(&b, "%d%s", x.Slot, tellReq(x.Req))
	}
	return b.String()
}

func tellChanges(list []api.Change) string {
	var b strings.Builder
	for _, x := range list {
		fmt.Fprintf(&b, "{%d %d", x.From, x.View)
		for _, c := range x.Certs {
			fmt.Fprintf(&b, " [%d %d %s %s]", c.View, c.Slot, tellReq(c.Req), tellSigs(c.Sigs))
		}
		fmt.Fprintf(&b, " %s}", tellSigs([]api.Sig{x.Sig}))
	}
	return b.String()
}

func tellMsg(m api.Msg) string {
	names := []string{"none", "request", "propose", "prepare", "commit", "vote", "change", "new view", "reply", "fetch", "state"}
	name := "no kind"
	if m.Kind >= 0 && m.Kind < len(names) {
		name = names[m.Kind]
	}
	return fmt.Sprintf("%s %d %d %d %s %d:%016x text %x next %v sigs %s changes %s links %s", name, m.Epoch, m.View, m.Slot, tellReq(m.Req),
		m.Result.Code, math.Float64bits(m.Result.Real), m.Text, append([]int{}, m.Next...), tellSigs(m.Sigs), tellChanges(m.Changes), tellLinks(m.Links))
}

func tellPacket(p api.Packet) string {
	return fmt.Sprintf("%d to %d: %s", p.From, p.To, tellMsg(p.Msg))
}

func tellAll(list []api.Packet) string {
	var b strings.Builder
	for _, p := range list {
		b.WriteString("\n" + tellPacket(p))
	}
	return b.String()
}

// Memory.

// withRoom answers a copy of the list with room behind it, so that whoever appends to it writes into the caller's memory.
func withRoom[T any](list []T) []T {
	return append(make([]T, 0, len(list)+3), list...)
}

// loan is memory that is a caller's, and what writes over it.
type loan []func()

// text answers the text in bytes of the caller's.
func (l *loan) text(s *string) {
	bytes := []byte(*s)
	if len(bytes) == 0 {
		return
	}
	*s = unsafe.String(&bytes[0], len(bytes))
	*l = append(*l, func() {
		for i := range bytes {
			bytes[i] = 'x'
		}
	})
}

func (l *loan) sigs(list *[]api.Sig) {
	*list = withRoom(*list)
	for i := range *list {
		l.text(&(*list)[i].Text)
	}
}

// lend answers a copy of the message all of which, lists and texts, is the caller's, and what spoils it.
func lend(m api.Msg) (api.Msg, func()) {
	var l loan
	m = clone(m)
	l.text(&m.Req.Op.Key)
	l.text(&m.Text)
	m.Next = withRoom(m.Next)
	l.sigs(&m.Sigs)
	m.Changes = withRoom(m.Changes)
	for i := range m.Changes {
		x := &m.Changes[i]
		l.text(&x.Sig.Text)
		x.Certs = withRoom(x.Certs)
		for j := range x.Certs {
			l.text(&x.Certs[j].Req.Op.Key)
			l.sigs(&x.Certs[j].Sigs)
		}
	}
	m.Links = withRoom(m.Links)
	for i := range m.Links {
		m.Links[i].Conf.Members = withRoom(m.Links[i].Conf.Members)
		l.sigs(&m.Links[i].Sigs)
	}
	return m, func() {
		for _, spoil := range l {
			spoil()
		}
		spoilMsg(m)
	}
}

func spoilInts(list []int) {
	for i := range list {
		list[i] = -7
	}
}

func spoilSigs(list []api.Sig) {
	for i := range list {
		list[i] = api.Sig{By: -7, Text: "spoilt"}
	}
}

func spoilLinks(list []api.Link) {
	for i := range list {
		spoilInts(list[i].Conf.Members)
		spoilSigs(list[i].Sigs)
		list[i] = api.Link{}
	}
}

func spoilMsg(m api.Msg) {
	spoilInts(m.Next)
	spoilSigs(m.Sigs)
	for i := range m.Changes {
		certs := m.Changes[i].Certs
		for j := range certs {
			spoilSigs(certs[j].Sigs)
			certs[j] = api.Cert{View: -7}
		}
		m.Changes[i] = api.Change{From: -7}
	}
	spoilLinks(m.Links)
}

// others answers the members but one.
func others(members []int, id int) []int {
	return slices.DeleteFunc(slices.Clone(members), func(n int) bool { return n == id })
}
