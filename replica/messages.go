package replica

import (
	"witan/api"
	"witan/change"
	"witan/deeds"
	"witan/terms"
)

// handlers answers what a message does, by its kind.
func handlers() [api.MState + 1]func(*step, int, api.Msg) {
	return [...]func(*step, int, api.Msg){
		api.MRequest: (*step).onRequest,
		api.MPropose: (*step).onPropose,
		api.MPrepare: (*step).onPrepare,
		api.MCommit:  (*step).onCommit,
		api.MVote:    (*step).onVote,
		api.MChange:  (*step).onChange,
		api.MNewView: (*step).onNewView,
		api.MReply:   (*step).onReply,
		api.MFetch:   (*step).onFetch,
		api.MState:   (*step).onState,
	}
}

func (s *step) onRequest(from int, m api.Msg) {
	if !s.isMember() || from != nodeOf(m.Req) || !isAsked(m) {
		return
	}
	stamp, result := s.era.ledger.Last(m.Req.Client)
	if m.Req.Stamp == stamp {
		s.reply(m.Req, result)
		return
	}
	at := &s.waiting[m.Req.Client-1]
	if m.Req.Stamp < stamp || m.Req.Stamp <= at.req.Stamp {
		return
	}
	*at = ask{req: m.Req, sig: m.Sigs[0]}
	s.timer.Start(s.now)
	s.propose()
}

func (s *step) onPropose(from int, m api.Msg) {
	if !s.isOfView(m) || !s.era.isPrimary(from, m.View) || !deeds.Null(m.Req) && !isAsked(m) {
		return
	}
	if s.era.Propose(m.Slot, m.Req) != api.OK {
		return
	}
	s.timer.Start(s.now)
	s.takeUp(m.Slot, m.Req)
}

func (s *step) onPrepare(from int, m api.Msg) {
	if s.isOfView(m) && s.era.Prepare(from, m.Slot, m.Req, m.Sigs[0]) == api.OK {
		s.goOn(m.Slot)
	}
}

func (s *step) onCommit(from int, m api.Msg) {
	if s.isOfView(m) && s.era.Commit(from, m.Slot, m.Req) == api.OK {
		s.goOn(m.Slot)
	}
}

func (s *step) onVote(from int, m api.Msg) {
	if m.Epoch == s.Epoch() && s.era.tally.Add(from, m.Text, m.Next, m.Sigs) == api.OK {
		s.goOverIfSettled()
	}
}

func (s *step) onChange(from int, m api.Msg) {
	x := m.Changes[0]
	if !s.isMember() || m.Epoch != s.Epoch() || x.From != from || !s.era.isOpenTo(x.View) {
		return
	}
	if change.Right(s.era.conf, x) != api.OK || x.View <= s.era.changes[from].View {
		return
	}
	s.era.changes[from] = x
	if view := s.era.urged(); view > s.View() {
		s.giveUp(view)
		return
	}
	s.leadIn()
}

func (s *step) onNewView(from int, m api.Msg) {
	if !s.isMember() || m.Epoch != s.Epoch() || !s.era.isPrimary(from, m.View) || !s.era.isOpenTo(m.View) {
		return
	}
	if picked, e := change.Pick(s.era.conf, m.View, m.Changes); e == api.OK {
		s.enter(m.View, picked)
	}
}

func (s *step) onReply(from int, m api.Msg) {}

func (s *step) onFetch(from int, m api.Msg) {
	if s.Epoch() <= m.Epoch {
		return
	}
	s.send(from, api.Msg{
		Kind:  api.MState,
		Slot:  s.era.first() - 1,
		Text:  s.settled.text,
		Sigs:  s.settled.sigs,
		Links: s.tracker.Chain(),
	})
}

func (s *step) onState(from int, m api.Msg) {
	if m.Epoch <= s.Epoch() {
		return
	}
	// No error can come of the text: the slot of a message that fits is small.
	text, _ := deeds.State(m.Slot, m.Text)
	if !terms.Proves(s.confAhead(m.Links), text, m.Sigs) {
		return
	}
	l, found := openBehind(m.Links[len(m.Links)-1].Conf, m.Text)
	if !found || s.tracker.Take(m.Links) != api.OK {
		return
	}
	s.settled = settled{text: m.Text, sigs: m.Sigs}
	s.begin(l)
}

// isOfView tells if it is a member and active, and the message of its epoch and view.
func (s *step) isOfView(m api.Msg) bool {
	return s.isMember() && m.Epoch == s.Epoch() && m.View == s.View() && s.era.active
}

// confAhead answers the configuration ahead of the last link.
func (s *step) confAhead(links []api.Link) api.Conf {
	if len(links) > 1 {
		return links[len(links)-2].Conf
	}
	first, _ := s.tracker.At(0)
	return first
}

// nodeOf answers the node of the request's client.
func nodeOf(q api.Request) int { return api.Node + q.Client }

// isAsked tells if the message's one signature is that of the request's client.
func isAsked(m api.Msg) bool {
	text, e := deeds.Text(m.Req)
	return e == api.OK && m.Sigs[0] == api.Sig{By: nodeOf(m.Req), Text: text}
}
