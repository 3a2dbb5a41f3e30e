package client_test

import (
	"fmt"
	"math"
	"slices"
	"strings"
	"testing"
	"unsafe"

	"witan/api"
	"witan/client"
	"witan/deeds"
	"witan/wire"
)

// pair is a client and its model, which are told the same. Behind each call all that can be asked is asked, what was handed in is as it was and then spoilt, and so is what was answered, once it is told.
type pair struct {
	t   *testing.T
	c   *client.Client
	m   *model
	row []string // what was called, to be told where something is wrong
	// sent is what members of configurations that are known sent of the request that is open: who sent which result's text in which epoch.
	sent map[string]map[int]bool
}

func pairOf(t *testing.T, id int, members ...int) *pair {
	t.Helper()
	first := conf(0, members...)
	c, e := client.New(id, first)
	if e != api.OK {
		t.Fatalf("New(%d, %v): %d", id, members, e)
	}
	spoilInts(first.Members)
	p := &pair{t: t, c: c, m: modelOf(id, conf(0, members...))}
	p.expectAsked()
	return p
}

// knowing answers a pair that knows all of the road.
func knowing(t *testing.T, id int, r *road) *pair {
	t.Helper()
	p := pairOf(t, id, r.first.Members...)
	if len(r.links) > 0 {
		p.handle(1, 0, r.state())
	}
	p.knows(len(r.links))
	return p
}

// ask asks for the operation, and answers the request that is open then.
func (p *pair) ask(o api.Op) api.Request {
	p.t.Helper()
	if e := p.tryAsk(o); e != api.OK {
		p.fail("refused: %d", e)
	}
	return p.m.open[0]
}

// tryAsk asks both for the operation.
func (p *pair) tryAsk(o api.Op) api.Errno {
	p.t.Helper()
	p.row = append(p.row, fmt.Sprintf("ask %d %q %016x %d", o.Kind, o.Key, math.Float64bits(o.Real), o.ID))
	want, e := p.m.ask(o)
	var l loan
	l.text(&o.Key)
	got, f := p.c.Ask(o)
	l.spoil()
	if e != f {
		p.fail("answered %d, asked %d", f, e)
	}
	if e == api.OK {
		p.sent = map[string]map[int]bool{}
	}
	p.compare(got, want)
	return e
}

// handle hands a message to both.
func (p *pair) handle(now, from int, x api.Msg) {
	p.t.Helper()
	p.row = append(p.row, fmt.Sprint("handle ", now, " ", from, " ", tellMsg(x)))
	p.noteSent(from, x)
	before := len(p.m.taken)
	p.m.handle(from, clone(x))
	handed, spoil := lend(x)
	got := p.c.Handle(now, from, handed)
	if !isEqual(handed, x) {
		p.fail("what was handed in was %s and is %s", tellMsg(x), tellMsg(handed))
	}
	spoil()
	if len(got) != 0 {
		p.fail("answered %s", tellAll(got))
	}
	p.expectAsked()
	if len(p.m.taken) > before {
		p.expectBacked()
	}
}

// tick lets time go on for both.
func (p *pair) tick(now int) []api.Packet {
	p.t.Helper()
	p.row = append(p.row, fmt.Sprint("tick ", now))
	return p.compare(p.c.Tick(now), p.m.tick(now))
}

func (p *pair) fail(format string, args ...any) {
	p.t.Helper()
	row := strings.Join(p.row[max(0, len(p.row)-40):], "\n")
	p.t.Fatalf("the client %d behind:\n%s\n%s", p.m.id, row, fmt.Sprintf(format, args...))
}

// compare holds the packets against each other one by one. Each is spoilt ahead of the next one, so that none may share memory with another one.
func (p *pair) compare(got, want []api.Packet) []api.Packet {
	p.t.Helper()
	if len(got) != len(want) {
		p.fail("answered %s\nasked %s", tellAll(got), tellAll(want))
	}
	for i := range got {
		if got[i].From != want[i].From || got[i].To != want[i].To || !isEqual(got[i].Msg, want[i].Msg) {
			p.fail("the packet %d\nis    %s\nasked %s", i, tellPacket(got[i]), tellPacket(want[i]))
		}
		if _, e := wire.Bytes(got[i].Msg); e != api.OK {
			p.fail("the packet %d doesn't fit: %d", i, e)
		}
		spoilMsg(got[i].Msg)
		got[i] = api.Packet{From: -1, To: -1}
	}
	p.expectAsked()
	return want
}

// expectAsked asks all that can be asked, twice: the second time what was answered the first time is spoilt.
func (p *pair) expectAsked() {
	p.t.Helper()
	for range 2 {
		q, isOpen := p.c.Open()
		if isOpen != (len(p.m.open) > 0) || !isOpen && q != (api.Request{}) || isOpen && !isEqualReq(q, p.m.open[0]) {
			p.fail("open is %v %s, asked %v", isOpen, tellReq(q), p.m.open)
		}
		if got := p.c.Epoch(); got != p.m.epoch() {
			p.fail("the epoch is %d, asked %d", got, p.m.epoch())
		}
		chain := p.c.Chain()
		if !slices.EqualFunc(chain, p.m.links, isEqualLink) {
			p.fail("the chain\nis    %s\nasked %s", tellLinks(chain), tellLinks(p.m.links))
		}
		spoilLinks(chain)
		p.expectTaken()
	}
}

// expectTaken asks what was accepted: the model's, at the places from 1 on, with stamps that rise by one.
func (p *pair) expectTaken() {
	p.t.Helper()
	entries, results := p.c.Accepted(), p.c.Results()
	if len(entries) != len(p.m.taken) || len(results) != len(p.m.taken) {
		p.fail("accepted %d with %d results, asked %d", len(entries), len(results), len(p.m.taken))
	}
	for i, want := range p.m.taken {
		if got := entries[i]; got.Slot != i+1 || got.Req.Stamp != i+1 || got.Req.Client != p.m.id || !isEqualReq(got.Req, want.req) {
			p.fail("the entry %d is %d %s, asked %s", i, got.Slot, tellReq(got.Req), tellReq(want.req))
		}
		if !isEqualResult(results[i], want.result) {
			p.fail("the result %d is %v, asked %v", i, results[i], want.result)
		}
		entries[i], results[i] = api.Entry{Slot: -7}, api.Result{Code: -7}
	}
}

// noteSent keeps what a member sent of the request that is open.
func (p *pair) noteSent(from int, x api.Msg) {
	if x.Kind != api.MReply || len(p.m.open) == 0 || !deeds.Same(x.Req, p.m.open[0]) || x.Epoch < 0 || x.Epoch >= len(p.m.confs) {
		return
	}
	if !slices.Contains(p.m.confs[x.Epoch].Members, from) || x.Result.Code < 0 || x.Result.Code > api.CodeNull {
		return
	}
	place := fmt.Sprint(x.Epoch, " ", resultText(x.Result))
	if p.sent[place] == nil {
		p.sent[place] = map[int]bool{}
	}
	p.sent[place][from] = true
}

// expectBacked holds that a weak quorum of one configuration sent the last result that was accepted. It doesn't ask the model's count.
func (p *pair) expectBacked() {
	p.t.Helper()
	results := p.c.Results()
	text := resultText(results[len(results)-1])
	for epoch, c := range p.m.confs {
		if len(p.sent[fmt.Sprint(epoch, " ", text)]) >= weakOf(len(c.Members)) {
			return
		}
	}
	p.fail("no weak quorum sent %x, but %v", text, p.sent)
}

// expect holds an answer against packets that are written out.
func (p *pair) expect(got []api.Packet, want ...api.Packet) {
	p.t.Helper()
	if tellAll(got) != tellAll(want) {
		p.fail("answered %s\nasked %s", tellAll(got), tellAll(want))
	}
}

// to answers packets of the messages, each to all of these ones, message by message.
func (p *pair) to(ids []int, list ...api.Msg) []api.Packet {
	var all []api.Packet
	for _, x := range list {
		for _, id := range ids {
			all = append(all, api.Packet{From: node + p.m.id, To: id, Msg: x})
		}
	}
	return all
}

// accepted holds how many it accepted, and if a request is open, against what is written out.
func (p *pair) accepted(n int, isOpen bool) {
	p.t.Helper()
	if _, open := p.c.Open(); len(p.c.Accepted()) != n || open != isOpen {
		p.fail("accepted %d, open %v; asked %d, %v", len(p.c.Accepted()), open, n, isOpen)
	}
}

// knows holds the last epoch that it knows against what is written out.
func (p *pair) knows(epoch int) {
	p.t.Helper()
	if p.c.Epoch() != epoch || len(p.c.Chain()) != epoch {
		p.fail("knows the epoch %d by %d links, asked %d", p.c.Epoch(), len(p.c.Chain()), epoch)
	}
}

// Comparing: reals by their bits, and lists that are nil as those that are empty.

func isEqualReq(a, b api.Request) bool {
	same := math.Float64bits(a.Op.Real) == math.Float64bits(b.Op.Real)
	a.Op.Real, b.Op.Real = 0, 0
	return same && a == b
}

func isEqualResult(a, b api.Result) bool {
	return a.Code == b.Code && math.Float64bits(a.Real) == math.Float64bits(b.Real)
}

func isEqualCert(a, b api.Cert) bool {
	return a.View == b.View && a.Slot == b.Slot && isEqualReq(a.Req, b.Req) && slices.Equal(a.Sigs, b.Sigs)
}

func isEqualChange(a, b api.Change) bool {
	return a.From == b.From && a.View == b.View && a.Sig == b.Sig && slices.EqualFunc(a.Certs, b.Certs, isEqualCert)
}

func isEqualLink(a, b api.Link) bool {
	return a.Conf.Epoch == b.Conf.Epoch && slices.Equal(a.Conf.Members, b.Conf.Members) && slices.Equal(a.Sigs, b.Sigs)
}

func isEqual(a, b api.Msg) bool {
	return a.Kind == b.Kind && a.Epoch == b.Epoch && a.View == b.View && a.Slot == b.Slot && isEqualReq(a.Req, b.Req) &&
		isEqualResult(a.Result, b.Result) && a.Text == b.Text && slices.Equal(a.Next, b.Next) && slices.Equal(a.Sigs, b.Sigs) &&
		slices.EqualFunc(a.Changes, b.Changes, isEqualChange) && slices.EqualFunc(a.Links, b.Links, isEqualLink)
}

// Telling: each thing as a text in which reals stand as their bits.

func tellReq(q api.Request) string {
	return fmt.Sprintf("(%d %d %d %q %016x %d)", q.Client, q.Stamp, q.Op.Kind, q.Op.Key, math.Float64bits(q.Op.Real), q.Op.ID)
}

func tellSigs(list []api.Sig) string {
	var b strings.Builder
	for _, s := range list {
		fmt.Fprintf(&b, "<%d %.40x>", s.By, s.Text)
	}
	return b.String()
}

func tellLinks(list []api.Link) string {
	var b strings.Builder
	for _, l := range list {
		fmt.Fprintf(&b, "{%d %v %s}", l.Conf.Epoch, l.Conf.Members, tellSigs(l.Sigs))
	}
	return b.String()
}

func tellMsg(m api.Msg) string {
	return fmt.Sprintf("kind %d: %d %d %d %s %d:%016x text %.40x next %v sigs %s changes %d links %s", m.Kind, m.Epoch, m.View, m.Slot, tellReq(m.Req),
		m.Result.Code, math.Float64bits(m.Result.Real), m.Text, append([]int{}, m.Next...), tellSigs(m.Sigs), len(m.Changes), tellLinks(m.Links))
}

func tellPacket(p api.Packet) string {
	return fmt.Sprintf("%d to %d: %s", p.From, p.To, tellMsg(p.Msg))
}

func tellAll(list []api.Packet) string {
	var b strings.Builder
	for _, p := range list {
		b.WriteString("\n" + tellPacket(p))
	}
	return b.String()
}

// Memory.

// withRoom answers a copy of the list with room behind it, so that whoever appends to it writes into the caller's memory.
func withRoom[T any](list []T) []T {
	return append(make([]T, 0, len(list)+3), list...)
}

// loan is memory that is a caller's, and what writes over it.
type loan []func()

// text answers the text in bytes of the caller's.
func (l *loan) text(s *string) {
	bytes := []byte(*s)
	if len(bytes) == 0 {
		return
	}
	*s = unsafe.String(&bytes[0], len(bytes))
	*l = append(*l, func() {
		for i := range bytes {
			bytes[i] = 'x'
		}
	})
}

func (l *loan) sigs(list *[]api.Sig) {
	*list = withRoom(*list)
	for i := range *list {
		l.text(&(*list)[i].Text)
	}
}

func (l *loan) spoil() {
	for _, spoil := range *l {
		spoil()
	}
}

// lend answers a copy of the message all of which, lists and texts, is the caller's, and what spoils it.
func lend(m api.Msg) (api.Msg, func()) {
	var l loan
	m = clone(m)
	l.text(&m.Req.Op.Key)
	l.text(&m.Text)
	m.Next = withRoom(m.Next)
	l.sigs(&m.Sigs)
	m.Changes = withRoom(m.Changes)
	m.Links = withRoom(m.Links)
	for i := range m.Links {
		m.Links[i].Conf.Members = withRoom(m.Links[i].Conf.Members)
		l.sigs(&m.Links[i].Sigs)
	}
	return m, func() {
		l.spoil()
		spoilMsg(m)
	}
}

func spoilInts(list []int) {
	for i := range list {
		list[i] = -7
	}
}

func spoilSigs(list []api.Sig) {
	for i := range list {
		list[i] = api.Sig{By: -7, Text: "spoilt"}
	}
}

func spoilLinks(list []api.Link) {
	for i := range list {
		spoilInts(list[i].Conf.Members)
		spoilSigs(list[i].Sigs)
		list[i] = api.Link{}
	}
}

func spoilMsg(m api.Msg) {
	spoilInts(m.Next)
	spoilSigs(m.Sigs)
	for i := range m.Changes {
		m.Changes[i] = api.Change{From: -7}
	}
	spoilLinks(m.Links)
}
