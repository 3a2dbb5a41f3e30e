package replica_test

import (
	"slices"

	"witan/api"
	"witan/change"
	"witan/deeds"
	"witan/ledger"
	"witan/lineage"
	"witan/terms"
	"witan/wire"
)

// model is a replica by the chapter's words. Of its log and its tally it keeps all words that weren't refused, and asks the whole row of them each time; where it is halted it gives up by a panic.
type model struct {
	id        int
	first     api.Conf
	chain     []api.Link
	ledger    *ledger.Ledger
	view      int
	words     []word              // of the view
	certs     map[int]api.Cert    // by slots
	committed map[int]api.Request // by slots
	votes     map[int]api.Msg     // by members
	changes   map[int]api.Change  // by members
	waits     map[int]api.Msg     // by clients
	says      []api.Msg
	settled   []api.Msg // none, or the state that it would tell, without links
	history   []api.Entry
	next      int
	active    bool
	voted     bool
	wait, end int // an end of -1: the timer doesn't run
	left      int
	halted    bool

	now int
	out []api.Packet
}

// word is what stands in a log: a proposal, what a member prepared, or what it committed.
type word struct {
	kind, from, slot int
	text             string
}

// halt is how the model gives up.
type halt struct{}

func modelOf(id int, first api.Conf) *model {
	l, e := ledger.New(first)
	if e != api.OK {
		panic("no ledger")
	}
	m := &model{id: id, first: first, waits: map[int]api.Msg{}, wait: patience, end: -1, left: leaves}
	m.settle(l)
	return m
}

// settle makes it have a ledger, and nothing of its epoch.
func (m *model) settle(l *ledger.Ledger) {
	m.ledger = l
	m.view, m.words, m.certs, m.committed = 0, nil, map[int]api.Cert{}, map[int]api.Request{}
	m.votes, m.changes, m.says = map[int]api.Msg{}, map[int]api.Change{}, nil
	m.active, m.voted, m.next = true, false, interval*m.epoch()+1
}

func (m *model) conf() api.Conf { return m.ledger.Conf() }

func (m *model) epoch() int { return m.conf().Epoch }

func (m *model) members() []int { return m.conf().Members }

func (m *model) isMember() bool { return slices.Contains(m.members(), m.id) }

func (m *model) quorum() int { return quorumOf(len(m.members())) }

func (m *model) primary(view int) int { return m.members()[view%len(m.members())] }

func (m *model) leads() bool { return m.isMember() && m.active && m.primary(m.view) == m.id }

// call answers what a call answers, or nothing, if the model is halted by then.
func (m *model) call(now int, act func()) (out []api.Packet) {
	if m.halted {
		return nil
	}
	m.now, m.out = now, nil
	defer func() {
		if p := recover(); p != nil {
			if _, ok := p.(halt); !ok {
				panic(p)
			}
			m.halted, out = true, nil
		}
	}()
	act()
	return m.out
}

// The log.

func (m *model) isSlot(slot int) bool {
	return slot > interval*m.epoch() && slot <= interval*(m.epoch()+1)
}

func (m *model) find(kind, from, slot int) (string, bool) {
	for _, w := range m.words {
		if w.kind == kind && w.from == from && w.slot == slot {
			return w.text, true
		}
	}
	return "", false
}

func (m *model) proposal(slot int) (string, bool) { return m.find(api.MPropose, -1, slot) }

func (m *model) count(kind, slot int, text string) []int {
	var by []int
	for _, id := range m.members() {
		if s, ok := m.find(kind, id, slot); ok && s == text {
			by = append(by, id)
		}
	}
	return by
}

func (m *model) isPrepared(slot int) bool {
	text, ok := m.proposal(slot)
	return ok && len(m.count(api.MPrepare, slot, text)) >= m.quorum()
}

// note puts a word into the log: false, if that is refused.
func (m *model) note(kind, from, slot int, q api.Request) bool {
	_, stands := m.find(kind, from, slot)
	if stands || !m.isSlot(slot) || kind != api.MPropose && !slices.Contains(m.members(), from) {
		return false
	}
	m.words = append(m.words, word{kind, from, slot, textOf(q)})
	if !m.isPrepared(slot) {
		return true
	}
	text, _ := m.proposal(slot)
	what, _ := deeds.Read(text)
	if c, ok := m.certs[slot]; !ok || c.View != m.view {
		m.certs[slot] = certOf(m.epoch(), m.view, slot, what, m.count(api.MPrepare, slot, text)...)
	}
	if _, ok := m.committed[slot]; !ok && len(m.count(api.MCommit, slot, text)) >= m.quorum() {
		m.committed[slot] = what
	}
	return true
}

func (m *model) goTo(view int) { m.view, m.words = view, nil }

// The timer.

func timeOf(now int) int { return min(max(now, 0), 1<<40) }

func (m *model) start() {
	if m.end < 0 {
		m.end = timeOf(m.now) + m.wait
	}
}

func (m *model) stop() { m.end = -1 }

func (m *model) startIfWaiting() {
	if len(m.waits) > 0 {
		m.start()
	}
}

// What is answered.

func (m *model) sign(text string) api.Sig {
	if m.left == 0 {
		panic(halt{})
	}
	m.left--
	return api.Sig{By: m.id, Text: text}
}

func (m *model) packet(to int, x api.Msg) {
	m.out = append(m.out, api.Packet{From: m.id, To: to, Msg: clone(x)})
}

func (m *model) tell(x api.Msg) {
	x.Epoch = m.epoch()
	for _, id := range m.members() {
		if id != m.id {
			m.packet(id, x)
		}
	}
}

func (m *model) say(x api.Msg) {
	m.tell(x)
	x.Epoch = m.epoch()
	m.says = append(m.says, x)
}

func (m *model) sayOnly(keep func(api.Msg) bool) {
	m.says = slices.DeleteFunc(slices.Clone(m.says), func(x api.Msg) bool { return !keep(x) })
}

// What it does by itself, in the chapter's order.

func (m *model) takeUp(slot int, q api.Request) {
	s := m.sign(preparedText(m.epoch(), m.view, slot, q))
	m.note(api.MPrepare, m.id, slot, q)
	m.say(api.Msg{Kind: api.MPrepare, View: m.view, Slot: slot, Req: q, Sigs: []api.Sig{s}})
	m.goOn(slot)
}

func (m *model) goOn(slot int) {
	if m.isPrepared(slot) {
		text, _ := m.proposal(slot)
		q, _ := deeds.Read(text)
		if m.note(api.MCommit, m.id, slot, q) {
			m.say(api.Msg{Kind: api.MCommit, View: m.view, Slot: slot, Req: q})
		}
	}
	m.do()
}

func (m *model) do() {
	anything := false
	for !m.ledger.Full() {
		slot := m.ledger.Done() + 1
		q, ok := m.committed[slot]
		if !ok {
			break
		}
		anything = true
		x, _ := m.ledger.Do(q)
		m.history = append(m.history, api.Entry{Slot: slot, Req: q})
		if deeds.Null(q) {
			continue
		}
		m.packet(node+q.Client, replyMsg(m.epoch(), q, x))
		if w, ok := m.waits[q.Client]; ok && w.Req.Stamp <= q.Stamp {
			delete(m.waits, q.Client)
		}
	}
	if anything {
		m.wait = patience
		m.stop()
		m.startIfWaiting()
	}
	if m.ledger.Full() && !m.voted {
		m.vote()
	}
	m.goOver()
}

func (m *model) vote() {
	turned := m.ledger.Copy()
	if turned.Turn() != api.OK {
		panic(halt{})
	}
	x := voteMsg(m.id, m.epoch(), turned.Text(), turned.Next())
	for i, s := range x.Sigs {
		x.Sigs[i] = m.sign(s.Text)
	}
	m.votes[m.id] = x
	m.say(x)
	m.voted = true
}

// alike tells if two votes are for the same.
func alike(a, b api.Msg) bool { return a.Text == b.Text && slices.Equal(a.Next, b.Next) }

// goOver goes over to what is settled, if something is.
func (m *model) goOver() {
	for _, id := range m.members() {
		v, ok := m.votes[id]
		if !ok {
			continue
		}
		var by []int
		for _, other := range m.members() {
			if w, ok := m.votes[other]; ok && alike(v, w) {
				by = append(by, other)
			}
		}
		if len(by) < m.quorum() {
			continue
		}
		c := conf(m.epoch()+1, v.Next...)
		l, e := ledger.Open(v.Text)
		if e != api.OK || confText(l.Conf()) != confText(c) || l.Done() != interval*c.Epoch {
			return
		}
		m.chain = append(m.chain, api.Link{Conf: c, Sigs: signatures(confText(c), by...)})
		m.settled = []api.Msg{{Kind: api.MState, Epoch: c.Epoch, Slot: interval * c.Epoch, Text: v.Text, Sigs: signatures(stateText(interval*c.Epoch, v.Text), by...)}}
		m.begin(l)
		return
	}
}

func (m *model) begin(l *ledger.Ledger) {
	m.settle(l)
	m.wait = patience
	m.stop()
	for client, w := range m.waits {
		last, _ := l.Last(client)
		if w.Req.Stamp <= last || !m.isMember() {
			delete(m.waits, client)
		}
	}
	m.startIfWaiting()
	m.propose()
}

func (m *model) isProposed(q api.Request) bool {
	for slot := interval*m.epoch() + 1; slot <= interval*(m.epoch()+1); slot++ {
		if text, ok := m.proposal(slot); ok && text == textOf(q) {
			return true
		}
	}
	return false
}

func (m *model) propose() {
	if !m.leads() {
		return
	}
	epoch := m.epoch()
	for client := 1; client <= clients; client++ {
		w, ok := m.waits[client]
		if !ok || m.isProposed(w.Req) || !m.isSlot(m.next) {
			continue
		}
		slot := m.next
		m.note(api.MPropose, -1, slot, w.Req)
		m.say(api.Msg{Kind: api.MPropose, View: m.view, Slot: slot, Req: w.Req, Sigs: w.Sigs})
		m.next++
		m.takeUp(slot, w.Req)
		if m.epoch() != epoch {
			return
		}
	}
}

func (m *model) giveUp(view int) {
	if view > lastView {
		panic(halt{})
	}
	m.goTo(view)
	m.active = false
	m.sayOnly(func(x api.Msg) bool { return x.Kind == api.MVote })
	m.wait = min(2*m.wait, 512)
	m.stop()
	m.start()
	x := api.Change{From: m.id, View: view}
	for slot := range interval {
		if c, ok := m.certs[interval*m.epoch()+1+slot]; ok {
			x.Certs = append(x.Certs, c)
		}
	}
	text, e := change.Text(m.epoch(), x)
	if e != api.OK {
		panic(halt{})
	}
	x.Sig = m.sign(text)
	m.changes[m.id] = x
	m.say(api.Msg{Kind: api.MChange, View: view, Changes: []api.Change{x}})
	m.leadIn()
}

func (m *model) leadIn() {
	if m.active || m.primary(m.view) != m.id {
		return
	}
	var list []api.Change
	for _, id := range m.members() {
		if x, ok := m.changes[id]; ok && x.View == m.view && len(list) < m.quorum() {
			list = append(list, x)
		}
	}
	if len(list) < m.quorum() {
		return
	}
	m.say(newViewMsg(m.epoch(), m.view, list...))
	picked, e := change.Pick(m.conf(), m.view, list)
	if e != api.OK {
		panic("nothing is picked")
	}
	m.enter(m.view, picked)
}

func (m *model) enter(view int, picked []api.Request) {
	if m.view != view {
		m.goTo(view)
	}
	m.active = true
	m.sayOnly(func(x api.Msg) bool {
		return x.Kind == api.MVote || x.Kind == api.MNewView && x.View == view
	})
	epoch := m.epoch()
	m.next = interval*epoch + 1 + len(picked)
	m.stop()
	m.startIfWaiting()
	for i, q := range picked {
		slot := interval*epoch + 1 + i
		m.note(api.MPropose, -1, slot, q)
		m.takeUp(slot, q)
		if m.epoch() != epoch {
			return
		}
	}
	m.propose()
}

// The messages.

func (m *model) handle(now, from int, x api.Msg) []api.Packet {
	if _, e := wire.Bytes(x); e != api.OK || from == m.id {
		return nil
	}
	x = bitwise(clone(x))
	return m.call(now, func() {
		switch x.Kind {
		case api.MRequest:
			m.onRequest(from, x)
		case api.MPropose, api.MPrepare, api.MCommit:
			m.onSlot(from, x)
		case api.MVote:
			m.onVote(from, x)
		case api.MChange:
			m.onChange(from, x)
		case api.MNewView:
			m.onNewView(from, x)
		case api.MFetch:
			for _, s := range m.settled {
				if s.Epoch > x.Epoch {
					s.Links = m.chain
					m.packet(from, s)
				}
			}
		case api.MState:
			m.onState(x)
		}
	})
}

// bitwise answers the message with the reals that have their bits.
func bitwise(x api.Msg) api.Msg {
	x.Req, _ = deeds.Read(textOf(x.Req))
	for i := range x.Changes {
		for j := range x.Changes[i].Certs {
			c := &x.Changes[i].Certs[j]
			c.Req, _ = deeds.Read(textOf(c.Req))
		}
	}
	return x
}

func (m *model) onRequest(from int, x api.Msg) {
	q := x.Req
	if !m.isMember() || from != node+q.Client || x.Sigs[0] != asker(q) {
		return
	}
	stamp, result := m.ledger.Last(q.Client)
	if q.Stamp == stamp {
		m.packet(from, replyMsg(m.epoch(), q, result))
	}
	if w, ok := m.waits[q.Client]; q.Stamp <= stamp || ok && w.Req.Stamp >= q.Stamp {
		return
	}
	m.waits[q.Client] = x
	m.start()
	m.propose()
}

func (m *model) onSlot(from int, x api.Msg) {
	if !m.isMember() || x.Epoch != m.epoch() || x.View != m.view || !m.active {
		return
	}
	switch x.Kind {
	case api.MPropose:
		if from != m.primary(m.view) || !deeds.Null(x.Req) && x.Sigs[0] != asker(x.Req) {
			return
		}
		if m.note(api.MPropose, -1, x.Slot, x.Req) {
			m.start()
			m.takeUp(x.Slot, x.Req)
		}
	case api.MPrepare:
		signed := x.Sigs[0] == api.Sig{By: from, Text: preparedText(m.epoch(), m.view, x.Slot, x.Req)}
		if signed && m.note(api.MPrepare, from, x.Slot, x.Req) {
			m.goOn(x.Slot)
		}
	case api.MCommit:
		if m.note(api.MCommit, from, x.Slot, x.Req) {
			m.goOn(x.Slot)
		}
	}
}

func (m *model) onVote(from int, x api.Msg) {
	_, voted := m.votes[from]
	if x.Epoch != m.epoch() || voted || !slices.Contains(m.members(), from) || x.Epoch == lastEpoch {
		return
	}
	if !slices.Equal(x.Sigs, voteMsg(from, x.Epoch, x.Text, x.Next).Sigs) {
		return
	}
	m.votes[from] = x
	m.goOver()
}

// isOpenTo tells if the view is above its own, or its own while it isn't active.
func (m *model) isOpenTo(view int) bool { return view > m.view || view == m.view && !m.active }

func (m *model) onChange(from int, x api.Msg) {
	c := x.Changes[0]
	if !m.isMember() || x.Epoch != m.epoch() || change.Right(m.conf(), c) != api.OK || c.From != from {
		return
	}
	if was, ok := m.changes[from]; !m.isOpenTo(c.View) || ok && was.View >= c.View {
		return
	}
	m.changes[from] = c
	for v := lastView; v > m.view; v-- {
		count := 0
		for _, other := range m.changes {
			if other.View >= v {
				count++
			}
		}
		if count >= weakOf(len(m.members())) {
			m.giveUp(v)
			return
		}
	}
	m.leadIn()
}

func (m *model) onNewView(from int, x api.Msg) {
	if !m.isMember() || x.Epoch != m.epoch() || from != m.primary(x.View) || !m.isOpenTo(x.View) {
		return
	}
	if picked, e := change.Pick(m.conf(), x.View, x.Changes); e == api.OK {
		m.enter(x.View, picked)
	}
}

func (m *model) onState(x api.Msg) {
	if x.Epoch <= m.epoch() {
		return
	}
	confs := []api.Conf{m.first}
	for i, l := range x.Links {
		if lineage.Valid(confs[i], l) != api.OK {
			return
		}
		if i < len(m.chain) && !slices.Equal(l.Conf.Members, m.chain[i].Conf.Members) {
			return
		}
		confs = append(confs, l.Conf)
	}
	l, e := ledger.Open(x.Text)
	if e != api.OK || confText(l.Conf()) != confText(confs[x.Epoch]) || l.Done() != x.Slot {
		return
	}
	if !terms.Proves(confs[x.Epoch-1], stateText(x.Slot, x.Text), x.Sigs) {
		return
	}
	m.chain = clone(x).Links
	x.Links = nil
	m.settled = []api.Msg{x}
	m.begin(l)
}

func (m *model) tick(now int) []api.Packet {
	return m.call(now, func() {
		if m.isMember() && m.end >= 0 && timeOf(now) >= m.end {
			m.giveUp(m.view + 1)
		}
		if now%again == 0 {
			for _, x := range m.says {
				m.tell(x)
			}
			m.tell(api.Msg{Kind: api.MFetch})
		}
	})
}
