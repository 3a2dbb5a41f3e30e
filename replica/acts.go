package replica

import (
	"slices"

	"witan/api"
	"witan/change"
	"witan/deeds"
	"witan/ledger"
	"witan/votes"
)

// takeUp prepares the request that is the slot's proposal. No error can come: who takes something up is a member, and prepares once a slot and view.
func (s *step) takeUp(slot int, q api.Request) {
	text, _ := deeds.Prepared(s.Epoch(), s.View(), slot, q)
	sig, signed := s.sign(text)
	if !signed {
		return
	}
	s.era.Prepare(s.id, slot, q, sig)
	s.say(api.Msg{Kind: api.MPrepare, View: s.View(), Slot: slot, Req: q, Sigs: []api.Sig{sig}})
	s.goOn(slot)
}

// goOn commits what is prepared in the slot, once, and does what can be done.
func (s *step) goOn(slot int) {
	if s.era.Prepared(slot) {
		q, _ := s.era.Proposed(slot)
		if s.era.Commit(s.id, slot, q) == api.OK {
			s.say(api.Msg{Kind: api.MCommit, View: s.View(), Slot: slot, Req: q})
		}
	}
	s.doAll()
}

// doAll does what can be done, votes at the epoch's end, and goes over to what is settled.
func (s *step) doAll() {
	before := s.Done()
	for s.doOne() {
	}
	if s.Done() > before {
		s.timer.Calm()
		s.timer.Stop()
		s.startIfAskedFor()
	}
	if s.era.ledger.Full() && !s.era.voted {
		s.vote()
	}
	if !s.halted {
		s.goOverIfSettled()
	}
}

// doOne does the next slot, if that is committed. Behind the epoch's last slot none is in the log, so that a full ledger does no more.
func (s *step) doOne() bool {
	slot := s.Done() + 1
	q, found := s.era.Committed(slot)
	if !found {
		return false
	}
	result, _ := s.era.ledger.Do(q)
	s.history = append(s.history, api.Entry{Slot: slot, Req: q})
	if deeds.Null(q) {
		return true
	}
	s.reply(q, result)
	if at := &s.waiting[q.Client-1]; at.req.Stamp <= q.Stamp {
		*at = ask{}
	}
	return true
}

// vote signs what the epoch came to. No error can come of the texts or the tally: a turned ledger has bytes and right members, and it votes once, as a member.
func (s *step) vote() {
	turned := s.era.ledger.Copy()
	if turned.Turn() != api.OK {
		s.halted = true
		return
	}
	text, next := turned.Text(), turned.Conf().Members
	state, conf, _ := votes.Texts(s.era.conf, text, next)
	var sigs []api.Sig
	for _, t := range []string{state, conf} {
		sig, signed := s.sign(t)
		if !signed {
			return
		}
		sigs = append(sigs, sig)
	}
	s.era.tally.Add(s.id, text, next, sigs)
	s.say(api.Msg{Kind: api.MVote, Slot: s.era.last(), Text: text, Next: next, Sigs: sigs})
	s.era.voted = true
}

// goOverIfSettled begins with what its tally settled, if that is a ledger of the next epoch.
func (s *step) goOverIfSettled() {
	x, found := s.era.tally.Settled()
	if !found {
		return
	}
	l, found := openBehind(x.Link.Conf, x.Text)
	if !found || s.tracker.Add(x.Link) != api.OK {
		return
	}
	s.settled = settled{text: x.Text, sigs: x.Sigs}
	s.begin(l)
}

// begin makes it begin with the ledger.
func (s *step) begin(l *ledger.Ledger) {
	s.era = newEra(l)
	s.timer.Calm()
	s.timer.Stop()
	for i := range s.waiting {
		stamp, _ := l.Last(i + 1)
		if s.waiting[i].req.Stamp <= stamp || !s.isMember() {
			s.waiting[i] = ask{}
		}
	}
	s.startIfAskedFor()
	s.propose()
}

// propose proposes what waits, if it leads. What waits is asked client by client, since taking one up may do another one's.
func (s *step) propose() {
	if !s.leads() {
		return
	}
	e := s.era
	for i := range s.waiting {
		a := s.waiting[i]
		if a.isNone() || e.next > e.last() || e.isProposed(a.req) {
			continue
		}
		slot := e.next
		e.Propose(slot, a.req)
		s.say(api.Msg{Kind: api.MPropose, View: e.View(), Slot: slot, Req: a.req, Sigs: []api.Sig{a.sig}})
		e.next++
		s.takeUp(slot, a.req)
		if s.isOver(e) {
			return
		}
	}
}

// giveUp leaves its view for a later one.
func (s *step) giveUp(view int) {
	if view > api.MaxView {
		s.halted = true
		return
	}
	e := s.era
	e.Enter(view)
	e.active = false
	e.hush(view)
	s.timer.Fail()
	s.timer.Stop()
	s.timer.Start(s.now)
	x, signed := s.signChange(view)
	if !signed {
		return
	}
	e.changes[s.id] = x
	s.say(api.Msg{Kind: api.MChange, View: view, Changes: []api.Change{x}})
	s.leadIn()
}

// signChange answers its change for the view. Where there is none it is halted.
func (s *step) signChange(view int) (api.Change, bool) {
	x := api.Change{From: s.id, View: view, Certs: s.era.Certs()}
	text, e := change.Text(s.Epoch(), x)
	if e != api.OK {
		s.halted = true
		return api.Change{}, false
	}
	sig, signed := s.sign(text)
	x.Sig = sig
	return x, signed
}

// leadIn begins its view, if it is the primary and a quorum of changes came. What is picked of them isn't refused: each was right when it came.
func (s *step) leadIn() {
	e := s.era
	view := e.View()
	if e.active || !e.isPrimary(s.id, view) {
		return
	}
	list := e.changesOf(view)
	if len(list) < e.quorum() {
		return
	}
	list = list[:e.quorum()]
	s.say(api.Msg{Kind: api.MNewView, View: view, Changes: list})
	picked, _ := change.Pick(e.conf, view, list)
	s.enter(view, picked)
}

// enter begins to be active in the view, with what is proposed again.
func (s *step) enter(view int, picked []api.Request) {
	e := s.era
	if e.View() != view {
		e.Enter(view)
	}
	e.active = true
	e.hush(view)
	e.next = e.first() + len(picked)
	s.timer.Stop()
	s.startIfAskedFor()
	for i, q := range picked {
		slot := e.first() + i
		e.Propose(slot, q)
		s.takeUp(slot, q)
		if s.isOver(e) {
			return
		}
	}
	s.propose()
}

// isOver tells if nothing more is to be done of what was begun in the era.
func (s *step) isOver(e *era) bool { return s.halted || s.era != e }

// startIfAskedFor starts its timer, if a request waits.
func (s *step) startIfAskedFor() {
	for _, a := range s.waiting {
		if !a.isNone() {
			s.timer.Start(s.now)
		}
	}
}

// openBehind answers the ledger whose bytes the text is, if that is one at the beginning of the configuration's epoch.
func openBehind(c api.Conf, text string) (*ledger.Ledger, bool) {
	l, e := ledger.Open(text)
	if e != api.OK || l.Done() != api.Interval*c.Epoch {
		return nil, false
	}
	own := l.Conf()
	return l, own.Epoch == c.Epoch && slices.Equal(own.Members, c.Members)
}
