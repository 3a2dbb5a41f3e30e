package replica_test

import (
	"fmt"
	"slices"
	"strings"
	"testing"

	"witan/api"
)

// What brings a pair to where a test needs it.

// primary answers who leads the pair's view.
func (p *pair) primary() int { return p.m.primary(p.m.view) }

// peers answers so many members but itself, the first ones.
func (p *pair) peers(n int) []int {
	list := slices.DeleteFunc(slices.Clone(p.m.members()), func(id int) bool { return id == p.m.id })
	return list[:n]
}

// rest answers all members but itself.
func (p *pair) rest() []int {
	n := len(p.m.members())
	if p.m.isMember() {
		n--
	}
	return p.peers(n)
}

// prepares hands in that these prepared the request in its view, and answers all that it answers.
func (p *pair) prepares(now, slot int, q api.Request, by ...int) []api.Packet {
	p.t.Helper()
	var out []api.Packet
	for _, id := range by {
		out = append(out, p.handle(now, id, prepareMsg(id, p.m.epoch(), p.m.view, slot, q))...)
	}
	return out
}

// commits likewise.
func (p *pair) commits(now, slot int, q api.Request, by ...int) []api.Packet {
	p.t.Helper()
	var out []api.Packet
	for _, id := range by {
		out = append(out, p.handle(now, id, commitMsg(p.m.epoch(), p.m.view, slot, q))...)
	}
	return out
}

// proposes hands in the proposal of its view's primary; or, if it is that itself, the request of the client.
func (p *pair) proposes(now, slot int, q api.Request) []api.Packet {
	p.t.Helper()
	if p.primary() == p.m.id {
		return p.handle(now, node+q.Client, askMsg(q))
	}
	return p.handle(now, p.primary(), proposeMsg(p.m.epoch(), p.m.view, slot, q))
}

// does makes it do the request in the slot: as many others as a quorum needs beside itself prepare it and commit it.
func (p *pair) does(now, slot int, q api.Request) []api.Packet {
	p.t.Helper()
	by := p.peers(p.m.quorum() - 1)
	out := p.proposes(now, slot, q)
	out = append(out, p.prepares(now, slot, q, by...)...)
	return append(out, p.commits(now, slot, q, by...)...)
}

// changes hands in the changes of these for the view, without certificates.
func (p *pair) changes(now, view int, by ...int) []api.Packet {
	p.t.Helper()
	var out []api.Packet
	for _, id := range by {
		out = append(out, p.handle(now, id, changeMsg(p.m.epoch(), id, view))...)
	}
	return out
}

// enters makes it active in a view that another one leads, with nothing proposed again.
func (p *pair) enters(now, view int) {
	p.t.Helper()
	p.handle(now, p.m.primary(view), plainNewView(p.m.epoch(), view, p.m.members()[:p.m.quorum()]...))
}

// votes hands in the votes of these for what the full ledger comes to.
func (p *pair) votes(now int, by ...int) []api.Packet {
	p.t.Helper()
	full := p.m.ledger.Copy()
	var out []api.Packet
	for _, id := range by {
		out = append(out, p.handle(now, id, voteFor(id, full))...)
	}
	return out
}

// tell tells all that can be asked.
func (p *pair) tell() string {
	return fmt.Sprintf("%d %d %t %d %d %t %d %x %s %s", p.r.Epoch(), p.r.View(), p.r.Active(), p.r.Done(), p.r.Left(), p.r.Halted(),
		p.r.Size(), p.r.State(), tellLinks(p.r.Chain()), tellEntries(p.r.History()))
}

// ticks lets time go on from one time to another one, and answers all that it answers.
func (p *pair) ticks(from, to int) []api.Packet {
	p.t.Helper()
	var out []api.Packet
	for now := from; now <= to; now++ {
		out = append(out, p.tick(now)...)
	}
	return out
}

// fetches answers the fetching that stands at the end of each telling.
func (p *pair) fetches() []api.Packet { return p.to(p.rest(), fetchMsg(p.m.epoch())) }

// gone answers a pair that took the state of where its council is behind so many epochs without requests.
func gone(t *testing.T, id, epochs int, members ...int) *pair {
	t.Helper()
	p := pairOf(t, id, members...)
	if epochs > 0 {
		p.handle(0, 1, walked(epochs, members...).state())
	}
	return p
}

// walked answers a road of so many epochs without requests.
func walked(epochs int, members ...int) *road {
	r := roadOf(members...)
	for range epochs {
		r.walk()
	}
	return r
}

// with answers the message with something changed.
func with(m api.Msg, change func(m *api.Msg)) api.Msg {
	m = clone(m)
	change(&m)
	return m
}

// withSigs answers the message with other signatures.
func withSigs(m api.Msg, sigs ...api.Sig) api.Msg {
	return with(m, func(m *api.Msg) { m.Sigs = sigs })
}

// trial is a message that comes to something for one who stands so.
type trial struct {
	t     *testing.T
	stand func() *pair
	from  int
	msg   api.Msg
	came  string // what it came to
}

// The time at which a trial's message comes, and that at which another one comes ahead of it.
const (
	early = 41
	late  = 43
)

func trialOf(t *testing.T, stand func() *pair, from int, m api.Msg) *trial {
	t.Helper()
	x := &trial{t: t, stand: stand, from: from, msg: m}
	p := stand()
	before := p.tell()
	out := p.handle(late, from, m)
	if len(out) == 0 && p.tell() == before {
		t.Fatal("it comes to nothing:", tellMsg(m))
	}
	x.came = came(p, out)
	return x
}

// came tells what was answered, how it stands, and what goes on by itself from then on.
func came(p *pair, out []api.Packet) string {
	p.t.Helper()
	said := tellAll(out) + "\n" + p.tell()
	return said + tellAll(p.ticks(late+1, late+20))
}

// refuses hands in another message, which comes to nothing, and behind it the trial's, which comes to all it comes to.
func (x *trial) refuses(name string, from int, m api.Msg) {
	x.t.Helper()
	p := x.stand()
	before := p.tell()
	out := p.handle(early, from, m)
	if len(out) > 0 || p.tell() != before {
		x.t.Fatalf("%s: %s\n%s\n%s", name, tellAll(out), before, p.tell())
	}
	if got := came(p, p.handle(late, x.from, x.msg)); got != x.came {
		x.t.Fatalf("%s: what came of the other one was %s\nasked %s", name, got, x.came)
	}
}

// passes hands the trial's message to one who stands otherwise: it comes to nothing.
func (x *trial) passes(name string, p *pair) {
	x.t.Helper()
	before := p.tell()
	if out := p.handle(late, x.from, x.msg); len(out) > 0 || p.tell() != before {
		x.t.Fatalf("%s: %s\n%s\n%s", name, tellAll(out), before, p.tell())
	}
	p.ticks(late+1, late+20)
}

// strangeFields changes one field each that the kind doesn't have, or makes one too great, so that the message doesn't fit.
func strangeFields(m api.Msg) map[string]api.Msg {
	list := map[string]api.Msg{}
	add := func(name string, change func(m *api.Msg)) { list[name] = with(m, change) }
	add("a kind 0", func(m *api.Msg) { m.Kind = 0 })
	add("a kind 11", func(m *api.Msg) { m.Kind = 11 })
	add("a kind below 0", func(m *api.Msg) { m.Kind = -1 })
	add("an epoch below 0", func(m *api.Msg) { m.Epoch = -1 })
	add("an epoch 61", func(m *api.Msg) { m.Epoch = lastEpoch + 1 })
	add("a view below 0", func(m *api.Msg) { m.View = -1 })
	add("a view 16", func(m *api.Msg) { m.View = lastView + 1 })
	add("a slot of another epoch", func(m *api.Msg) { m.Slot += interval })
	add("a signature more", func(m *api.Msg) { m.Sigs = append(m.Sigs, signatures("x", firstOf(ids+1)...)...) })
	add("a link", func(m *api.Msg) { m.Links = append(m.Links, api.Link{Conf: conf(1, 0, 1, 2, 3)}) })
	if m.Kind != api.MReply {
		add("a result", func(m *api.Msg) { m.Result.Code = 1 })
	}
	if m.Kind != api.MVote && m.Kind != api.MState {
		add("a text", func(m *api.Msg) { m.Text = "x" })
	}
	if m.Kind != api.MVote {
		add("members", func(m *api.Msg) { m.Next = []int{0, 1, 2, 3} })
	}
	if m.Kind != api.MNewView {
		add("a change more", func(m *api.Msg) { m.Changes = append(m.Changes, changeOf(0, 0, 1)) })
	}
	return list
}

// refusesStrange hands in the trial's message as it doesn't fit, and as one from itself.
func (x *trial) refusesStrange() {
	x.t.Helper()
	for name, m := range strangeFields(x.msg) {
		x.refuses(name, x.from, m)
	}
	x.refuses("from itself", x.stand().m.id, x.msg)
}

// tellBriefly tells to whom what was said, by kinds and slots: "3>1 prepare 4".
func tellBriefly(list []api.Packet) string {
	var words []string
	for _, p := range list {
		kind, _, _ := strings.Cut(tellMsg(p.Msg), " ")
		words = append(words, fmt.Sprintf("%d>%d %s %d", p.From, p.To, kind, p.Msg.Slot))
	}
	return strings.Join(words, ", ")
}
