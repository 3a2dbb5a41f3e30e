package replica_test

import (
	"fmt"
	"math"
	"slices"
	"strings"
	"testing"

	"witan/api"
	"witan/deeds"
	"witan/ledger"
	"witan/replica"
	"witan/wire"
)

// pair is a replica and its model, which are told the same. Behind each call all that can be asked is asked, what was handed in is as it was and then spoilt, and so is what was answered, once it is told.
type pair struct {
	t     *testing.T
	r     *replica.Replica
	m     *model
	row   []string          // what was called, to be told where something is wrong
	bound int               // how many messages it said at most
	seen  map[string]string // the request of each text that it signed to have prepared, by epoch, view and slot
	signs int               // how many texts it signed that could be seen
}

func pairOf(t *testing.T, id int, members ...int) *pair {
	t.Helper()
	first := conf(0, members...)
	r, e := replica.New(id, first)
	if e != api.OK {
		t.Fatalf("New(%d, %v): %d", id, members, e)
	}
	spoilInts(first.Members)
	p := &pair{t: t, r: r, m: modelOf(id, conf(0, members...)), seen: map[string]string{}}
	p.expectAsked()
	return p
}

// handle hands a message to both, and answers what they answered.
func (p *pair) handle(now, from int, x api.Msg) []api.Packet {
	p.t.Helper()
	p.row = append(p.row, fmt.Sprint("handle ", now, " ", from, " ", tellMsg(x)))
	want := p.m.handle(now, from, clone(x))
	handed := roomy(x)
	before := tellMsg(handed)
	got := p.r.Handle(now, from, handed)
	if after := tellMsg(handed); after != before {
		p.fail("what was handed in was %s and is %s", before, after)
	}
	spoilMsg(handed)
	return p.compare(got, want)
}

// tick lets time go on for both.
func (p *pair) tick(now int) []api.Packet {
	p.t.Helper()
	p.row = append(p.row, fmt.Sprint("tick ", now))
	want := p.m.tick(now)
	got := p.r.Tick(now)
	if now%again == 0 && !p.r.Halted() {
		p.expectBound(got)
	}
	return p.compare(got, want)
}

func (p *pair) fail(format string, args ...any) {
	p.t.Helper()
	row := p.row
	if len(row) > 40 {
		row = row[len(row)-40:]
	}
	p.t.Fatalf("the replica %d behind:\n%s\n%s", p.m.id, strings.Join(row, "\n"), fmt.Sprintf(format, args...))
}

// compare holds the packets against each other one by one. Each is spoilt ahead of the next one, so that none may share memory with another one.
func (p *pair) compare(got, want []api.Packet) []api.Packet {
	p.t.Helper()
	if len(got) != len(want) {
		p.fail("answered %s\nasked %s", tellAll(got), tellAll(want))
	}
	for i := range got {
		if g, w := tellPacket(got[i]), tellPacket(want[i]); g != w {
			p.fail("the packet %d\nis    %s\nasked %s", i, g, w)
		}
		if _, e := wire.Bytes(got[i].Msg); e != api.OK {
			p.fail("the packet %d doesn't fit: %d", i, e)
		}
		p.noteSigned(got[i].Msg)
		spoilMsg(got[i].Msg)
		got[i] = api.Packet{From: -1, To: -1}
	}
	p.expectAsked()
	return want
}

// expectAsked asks all that can be asked.
func (p *pair) expectAsked() {
	p.t.Helper()
	ask := func() []string {
		chain, history := p.r.Chain(), p.r.History()
		s := fmt.Sprintf("id %d epoch %d view %d active %t done %d left %d halted %t size %d\nstate %x\nchain %s\nhistory %s",
			p.r.ID(), p.r.Epoch(), p.r.View(), p.r.Active(), p.r.Done(), p.r.Left(), p.r.Halted(), p.r.Size(),
			p.r.State(), tellLinks(chain), tellEntries(history))
		spoilLinks(chain)
		for i := range history {
			history[i] = api.Entry{Slot: -1}
		}
		return strings.Split(s, "\n")
	}
	size := len(p.m.words)
	s := fmt.Sprintf("id %d epoch %d view %d active %t done %d left %d halted %t size %d\nstate %x\nchain %s\nhistory %s",
		p.m.id, p.m.epoch(), p.m.view, p.m.active, p.m.ledger.Done(), p.m.left, p.m.halted, size,
		p.m.ledger.Text(), tellLinks(p.m.chain), tellEntries(p.m.history))
	want := strings.Split(s, "\n")
	for range 2 { // the second time what was answered the first time is spoilt
		got := ask()
		for i := range want {
			if got[i] != want[i] {
				p.fail("is    %s\nasked %s", got[i], want[i])
			}
		}
	}
	if n := len(p.m.members()); size > interval*(1+2*n) {
		p.fail("the log has %d of %d members", size, n)
	}
}

// noteSigned keeps what it signed to have prepared: one request in one epoch, view and slot.
func (p *pair) noteSigned(x api.Msg) {
	p.t.Helper()
	if x.Kind != api.MPrepare {
		return
	}
	place := fmt.Sprint(x.Epoch, " ", x.View, " ", x.Slot)
	text := textOf(x.Req)
	if was, ok := p.seen[place]; ok && was != text {
		p.fail("prepared two requests in %s: %x and %x", place, was, text)
	}
	p.seen[place] = text
}

// expectBound holds what it says, as it tells it again at this tick, to the bound: three messages a slot, and three more.
func (p *pair) expectBound(told []api.Packet) {
	p.t.Helper()
	kinds := map[string]int{}
	for _, x := range told {
		if x.To == told[len(told)-1].To && x.Msg.Kind != api.MFetch {
			kinds[tellMsg(x.Msg)]++
		}
	}
	p.bound = max(p.bound, len(kinds))
	if len(kinds) > 3*interval+3 {
		p.fail("says %d messages", len(kinds))
	}
}

// expect holds an answer against packets that are written out: to whom, and what.
func (p *pair) expect(got []api.Packet, want ...api.Packet) {
	p.t.Helper()
	if tellAll(got) != tellAll(want) {
		p.fail("answered %s\nasked %s", tellAll(got), tellAll(want))
	}
}

// expectNone holds an answer to be none.
func (p *pair) expectNone(got []api.Packet) {
	p.t.Helper()
	p.expect(got)
}

// to answers packets of the messages, each to all of these ones, message by message.
func (p *pair) to(ids []int, list ...api.Msg) []api.Packet {
	var all []api.Packet
	for _, x := range list {
		for _, id := range ids {
			all = append(all, api.Packet{From: p.m.id, To: id, Msg: x})
		}
	}
	return all
}

// reply answers the packet by which a client is told what its request came to.
func (p *pair) reply(epoch int, q api.Request, x api.Result) api.Packet {
	return api.Packet{From: p.m.id, To: node + q.Client, Msg: replyMsg(epoch, q, x)}
}

// stands holds what can be asked in short against what is written out.
func (p *pair) stands(epoch, view int, active bool, done, left int) {
	p.t.Helper()
	got := fmt.Sprint(p.r.Epoch(), p.r.View(), p.r.Active(), p.r.Done(), p.r.Left())
	if want := fmt.Sprint(epoch, view, active, done, left); got != want {
		p.fail("stands %s, asked %s", got, want)
	}
}

// twin answers another pair that was told nothing yet, of the same number and first configuration.
func (p *pair) full() *ledger.Ledger { return p.m.ledger.Copy() }

// Telling: each thing as a text in which reals stand as their bits, and lists that are nil as those that are empty.

func tellReq(q api.Request) string {
	return fmt.Sprintf("(%d %d %d %q %016x %d)", q.Client, q.Stamp, q.Op.Kind, q.Op.Key, math.Float64bits(q.Op.Real), q.Op.ID)
}

func tellSigs(list []api.Sig) string {
	var b strings.Builder
	for _, s := range list {
		fmt.Fprintf(&b, "<%d %x>", s.By, s.Text)
	}
	return b.String()
}

func tellLinks(list []api.Link) string {
	var b strings.Builder
	for _, l := range list {
		fmt.Fprintf(&b, "{%d %v %s}", l.Conf.Epoch, l.Conf.Members, tellSigs(l.Sigs))
	}
	return b.String()
}

func tellEntries(list []api.Entry) string {
	var b strings.Builder
	for _, x := range list {
		fmt.Fprintf(&b, "%d%s", x.Slot, tellReq(x.Req))
	}
	return b.String()
}

func tellChanges(list []api.Change) string {
	var b strings.Builder
	for _, x := range list {
		fmt.Fprintf(&b, "{%d %d", x.From, x.View)
		for _, c := range x.Certs {
			fmt.Fprintf(&b, " [%d %d %s %s]", c.View, c.Slot, tellReq(c.Req), tellSigs(c.Sigs))
		}
		fmt.Fprintf(&b, " %s}", tellSigs([]api.Sig{x.Sig}))
	}
	return b.String()
}

func tellMsg(m api.Msg) string {
	names := []string{"none", "request", "propose", "prepare", "commit", "vote", "change", "new view", "reply", "fetch", "state"}
	name := "no kind"
	if m.Kind >= 0 && m.Kind < len(names) {
		name = names[m.Kind]
	}
	return fmt.Sprintf("%s %d %d %d %s %d:%016x text %x next %v sigs %s changes %s links %s", name, m.Epoch, m.View, m.Slot, tellReq(m.Req),
		m.Result.Code, math.Float64bits(m.Result.Real), m.Text, append([]int{}, m.Next...), tellSigs(m.Sigs), tellChanges(m.Changes), tellLinks(m.Links))
}

func tellPacket(p api.Packet) string {
	return fmt.Sprintf("%d to %d: %s", p.From, p.To, tellMsg(p.Msg))
}

func tellAll(list []api.Packet) string {
	var b strings.Builder
	for _, p := range list {
		b.WriteString("\n" + tellPacket(p))
	}
	return b.String()
}

// Memory.

// withRoom answers a copy of the list with room behind it, so that whoever appends to it writes into the caller's memory.
func withRoom[T any](list []T) []T {
	return append(make([]T, 0, len(list)+3), list...)
}

func roomy(m api.Msg) api.Msg {
	m = clone(m)
	m.Next = withRoom(m.Next)
	m.Sigs = withRoom(m.Sigs)
	m.Changes = withRoom(m.Changes)
	for i := range m.Changes {
		m.Changes[i].Certs = withRoom(m.Changes[i].Certs)
	}
	m.Links = withRoom(m.Links)
	return m
}

func spoilInts(list []int) {
	for i := range list {
		list[i] = -7
	}
}

func spoilSigs(list []api.Sig) {
	for i := range list {
		list[i] = api.Sig{By: -7, Text: "spoilt"}
	}
}

func spoilLinks(list []api.Link) {
	for i := range list {
		spoilInts(list[i].Conf.Members)
		spoilSigs(list[i].Sigs)
		list[i] = api.Link{}
	}
}

func spoilMsg(m api.Msg) {
	spoilInts(m.Next)
	spoilSigs(m.Sigs)
	for i := range m.Changes {
		certs := m.Changes[i].Certs
		for j := range certs {
			spoilSigs(certs[j].Sigs)
			certs[j] = api.Cert{View: -7}
		}
		m.Changes[i] = api.Change{From: -7}
	}
	spoilLinks(m.Links)
}

// others answers the members but one.
func others(members []int, id int) []int {
	return slices.DeleteFunc(slices.Clone(members), func(n int) bool { return n == id })
}

// isSame tells if two requests have one text.
func isSame(a, b api.Request) bool { return deeds.Same(a, b) }
