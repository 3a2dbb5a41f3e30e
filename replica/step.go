package replica

import (
	"slices"

	"witan/api"
)

// step is what goes on within one call: the replica, the time, and what it answers so far.
type step struct {
	*Replica
	now int
	out []api.Packet
}

// answer answers what the call answers: nothing, if the replica was halted in it.
func (s *step) answer() []api.Packet {
	if s.halted {
		return nil
	}
	return s.out
}

// sign answers its signature of the text. Where no leaf is left there is none, and it is halted.
func (s *step) sign(text string) (api.Sig, bool) {
	if s.left == 0 {
		s.halted = true
		return api.Sig{}, false
	}
	s.left--
	return api.Sig{By: s.id, Text: text}, true
}

// send answers a packet with the message, of its epoch. Each packet has memory of its own.
func (s *step) send(to int, m api.Msg) {
	m.Epoch = s.Epoch()
	s.out = append(s.out, api.Packet{From: s.id, To: to, Msg: copyMsg(m)})
}

// reply tells the request's client what it came to.
func (s *step) reply(q api.Request, x api.Result) {
	s.send(nodeOf(q), api.Msg{Kind: api.MReply, Req: q, Result: x})
}

// tell sends the message to each other member.
func (s *step) tell(m api.Msg) {
	for _, id := range s.era.conf.Members {
		if id != s.id {
			s.send(id, m)
		}
	}
}

// say tells the message, now and each time that it tells again what it says.
func (s *step) say(m api.Msg) {
	s.tell(m)
	s.era.says = append(s.era.says, m)
}

// tellAgain tells what it says, and asks for what was settled.
func (s *step) tellAgain() {
	for _, m := range s.era.says {
		s.tell(m)
	}
	s.tell(api.Msg{Kind: api.MFetch})
}

// copyMsg answers the message in memory of its own. Its links are so already: they are the chain that the tracker answered.
func copyMsg(m api.Msg) api.Msg {
	m.Next = slices.Clone(m.Next)
	m.Sigs = slices.Clone(m.Sigs)
	m.Changes = slices.Clone(m.Changes)
	for i, x := range m.Changes {
		m.Changes[i].Certs = copyCerts(x.Certs)
	}
	return m
}

func copyCerts(list []api.Cert) []api.Cert {
	list = slices.Clone(list)
	for i, c := range list {
		list[i].Sigs = slices.Clone(c.Sigs)
	}
	return list
}
