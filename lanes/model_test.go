package lanes_test

import (
	"math"
	"slices"

	"witan/api"
	"witan/wire"
)

// model is a lane in the chapter's words. It keeps all that was ever noted, in order.
type model struct {
	bad   []int
	row   []api.Packet
	noted map[api.Sig]bool
}

func modelOf(bad ...int) *model {
	return &model{bad: slices.Clone(bad), noted: map[api.Sig]bool{}}
}

func (m *model) send(packets ...api.Packet) {
	for _, p := range packets {
		for _, s := range wire.Terms(p.Msg) {
			m.noted[s] = true
		}
		if len(m.row) < maxLane {
			m.row = append(m.row, answered(p))
		}
	}
}

func (m *model) inject(p api.Packet) api.Errno {
	if !slices.Contains(m.bad, p.From) {
		return api.ErrArg
	}
	if _, e := wire.Bytes(p.Msg); e != api.OK {
		return api.ErrField
	}
	for _, s := range wire.Terms(p.Msg) {
		if !slices.Contains(m.bad, s.By) && !m.noted[s] {
			return api.ErrSig
		}
	}
	if len(m.row) == maxLane {
		return api.ErrFull
	}
	m.row = append(m.row, answered(p))
	return api.OK
}

// at answers the place of the packet n: it is counted on from 0, or back from 0, round and round.
func (m *model) at(n int) int {
	count := len(m.row)
	if n >= 0 {
		return n % count
	}
	return count - 1 - (-(n + 1))%count
}

func (m *model) take(n int) (api.Packet, bool) {
	if len(m.row) == 0 {
		return api.Packet{}, false
	}
	at := m.at(n)
	p := m.row[at]
	if at == 0 {
		m.row = m.row[1:] // long rows are drained from here
	} else {
		m.row = append(slices.Clone(m.row[:at]), m.row[at+1:]...)
	}
	return p, true
}

func (m *model) copy(n int) bool {
	if len(m.row) == 0 || len(m.row) == maxLane {
		return false
	}
	m.row = append(m.row, clone(m.row[m.at(n)]))
	return true
}

// answered answers the packet as it is answered: all as it came, and each real with its bits.
func answered(p api.Packet) api.Packet {
	p = clone(p)
	canon := func(x *float64) {
		if math.IsNaN(*x) {
			*x = nanOf(0x7FF8000000000000)
		}
	}
	canon(&p.Msg.Req.Op.Real)
	canon(&p.Msg.Result.Real)
	for _, x := range p.Msg.Changes {
		for j := range x.Certs {
			canon(&x.Certs[j].Req.Op.Real)
		}
	}
	return p
}
