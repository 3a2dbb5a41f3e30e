package client_test

import (
	"slices"

	"witan/api"
	"witan/deeds"
	"witan/lineage"
	"witan/wire"
)

// model is a client by the chapter's words.
type model struct {
	id    int
	confs []api.Conf // what it knows, by epochs
	links []api.Link
	stamp int // of its last request
	open  []api.Request
	came  map[int]map[int]string // what came, by epochs and members
	taken []taken
}

// taken is what it accepted, with the result.
type taken struct {
	req    api.Request
	result api.Result
}

func modelOf(id int, first api.Conf) *model {
	return &model{id: id, confs: []api.Conf{first}}
}

func (m *model) ask(o api.Op) ([]api.Packet, api.Errno) {
	q := request(m.id, m.stamp+1, o)
	if !deeds.Right(q) {
		return nil, api.ErrArg
	}
	if len(m.open) > 0 {
		return nil, api.ErrState
	}
	m.stamp++
	m.open = []api.Request{byBits(q)}
	m.came = map[int]map[int]string{}
	return m.anew(), api.OK
}

// byBits answers the request as whoever reads its text has it.
func byBits(q api.Request) api.Request {
	q, e := deeds.Read(textOf(q))
	if e != api.OK {
		panic("no request")
	}
	return q
}

func (m *model) epoch() int { return len(m.links) }

// toAll answers a packet with the message to each member of the last configuration.
func (m *model) toAll(x api.Msg) []api.Packet {
	var all []api.Packet
	for _, id := range m.confs[m.epoch()].Members {
		all = append(all, api.Packet{From: node + m.id, To: id, Msg: x})
	}
	return all
}

func (m *model) anew() []api.Packet { return m.toAll(askMsg(m.open[0])) }

func (m *model) tick(now int) []api.Packet {
	if now%again != 0 {
		return nil
	}
	var all []api.Packet
	if len(m.open) > 0 {
		all = m.anew()
	}
	return append(all, m.toAll(fetchMsg(m.epoch()))...)
}

func (m *model) handle(from int, x api.Msg) {
	if _, e := wire.Bytes(x); e != api.OK {
		return
	}
	switch x.Kind {
	case api.MReply:
		m.reply(from, x)
	case api.MState:
		m.state(x.Links)
	}
}

func (m *model) reply(from int, x api.Msg) {
	if len(m.open) == 0 || textOf(x.Req) != textOf(m.open[0]) {
		return
	}
	if x.Epoch > m.epoch() {
		return
	}
	members := m.confs[x.Epoch].Members
	if !slices.Contains(members, from) {
		return
	}
	if m.came[x.Epoch] == nil {
		m.came[x.Epoch] = map[int]string{}
	}
	if m.came[x.Epoch][from] != "" {
		return
	}
	text := resultText(x.Result)
	m.came[x.Epoch][from] = text
	alike := 0
	for _, other := range m.came[x.Epoch] {
		if other == text {
			alike++
		}
	}
	if alike < weakOf(len(members)) {
		return
	}
	own, _ := deeds.ReadResult(text)
	m.taken = append(m.taken, taken{m.open[0], own})
	m.open = nil
}

func (m *model) state(links []api.Link) {
	confs := m.confs[:1:1]
	for _, l := range links {
		if lineage.Valid(confs[len(confs)-1], l) != api.OK {
			return
		}
		confs = append(confs, l.Conf)
	}
	for epoch := range min(len(confs), len(m.confs)) {
		if !slices.Equal(confs[epoch].Members, m.confs[epoch].Members) {
			return
		}
	}
	if len(confs) <= len(m.confs) {
		return
	}
	m.confs, m.links = confs, links
}
