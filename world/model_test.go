package world_test

import (
	"fmt"
	"math"
	"slices"
	"strings"

	"witan/api"
	"witan/client"
	"witan/replica"
	"witan/wire"
)

// model is a world in the chapters' words. What is under way is its own; its nodes are those of the layers below, which it moves by hand.
type model struct {
	bad      []int
	replicas [ids]*replica.Replica
	clients  [clients + 1]*client.Client
	row      []api.Packet
	noted    map[api.Sig]bool
	now      int
	sent     []api.Packet // all that honest nodes sent
}

func modelOf(first []int, n, k int, bad []int) *model {
	m := &model{bad: slices.Clone(bad), noted: map[api.Sig]bool{}}
	for id := range n {
		if !slices.Contains(bad, id) {
			m.replicas[id], _ = replica.New(id, conf(0, first...))
		}
	}
	for id := 1; id <= k; id++ {
		if !slices.Contains(bad, node+id) {
			m.clients[id], _ = client.New(id, conf(0, first...))
		}
	}
	return m
}

// do makes a step, and answers its error.
func (m *model) do(x api.Do) api.Errno {
	nothing := len(m.row) == 0
	switch x.Kind {
	case 1:
		if nothing {
			return api.ErrIndex
		}
		m.deliver(m.place(x.N))
	case 2:
		if nothing {
			return api.ErrIndex
		}
		m.take(m.place(x.N))
	case 3:
		if nothing {
			return api.ErrIndex
		}
		if len(m.row) == maxLane {
			return api.ErrFull
		}
		m.row = append(m.row, clone(m.row[m.place(x.N)]))
	case 4:
		return m.tick(x.N)
	case 5:
		if x.N < 1 || x.N > clients || m.clients[x.N] == nil {
			return api.ErrIndex
		}
		l, e := m.clients[x.N].Ask(x.Op)
		m.send(l)
		return e
	case 6:
		return m.inject(api.Packet{From: x.From, To: x.N, Msg: x.Msg})
	case 7:
		if x.N < 0 || x.N > mostRounds {
			return api.ErrArg
		}
		for range x.N {
			for range len(m.row) {
				m.deliver(0)
			}
		}
	default:
		return api.ErrKind
	}
	return api.OK
}

func (m *model) tick(n int) api.Errno {
	switch {
	case n == -1:
		m.now++
		for id := range ids {
			m.tickReplica(id)
		}
		for id := 1; id <= clients; id++ {
			m.tickClient(id)
		}
	case n >= 0 && n < ids && m.replicas[n] != nil:
		m.now++
		m.tickReplica(n)
	case n > node && n <= node+clients && m.clients[n-node] != nil:
		m.now++
		m.tickClient(n - node)
	default:
		return api.ErrIndex
	}
	return api.OK
}

func (m *model) tickReplica(id int) {
	if r := m.replicas[id]; r != nil {
		m.send(r.Tick(m.now))
	}
}

func (m *model) tickClient(id int) {
	if c := m.clients[id]; c != nil {
		m.send(c.Tick(m.now))
	}
}

// place answers the place of the packet n: it is counted on from 0, or back from 0, round and round.
func (m *model) place(n int) int {
	count := len(m.row)
	if n >= 0 {
		return n % count
	}
	return count - 1 - (-(n + 1))%count
}

func (m *model) take(at int) api.Packet {
	p := m.row[at]
	if at == 0 {
		m.row = m.row[1:] // long rows are drained from here
	} else {
		m.row = append(slices.Clone(m.row[:at]), m.row[at+1:]...)
	}
	return p
}

func (m *model) deliver(at int) {
	p := m.take(at)
	switch to := p.To; {
	case to >= 0 && to < ids && m.replicas[to] != nil:
		m.send(m.replicas[to].Handle(m.now, p.From, p.Msg))
	case to > node && to <= node+clients && m.clients[to-node] != nil:
		m.send(m.clients[to-node].Handle(m.now, p.From, p.Msg))
	}
}

func (m *model) send(list []api.Packet) {
	for _, p := range list {
		m.sent = append(m.sent, p)
		for _, s := range wire.Terms(p.Msg) {
			m.noted[s] = true
		}
		if len(m.row) < maxLane {
			m.row = append(m.row, p)
		}
	}
}

func (m *model) inject(p api.Packet) api.Errno {
	if !slices.Contains(m.bad, p.From) {
		return api.ErrArg
	}
	if _, e := wire.Bytes(p.Msg); e != api.OK {
		return api.ErrField
	}
	if !m.derivable(p.Msg) {
		return api.ErrSig
	}
	if len(m.row) == maxLane {
		return api.ErrFull
	}
	m.row = append(m.row, clone(p))
	return api.OK
}

// derivable tells if each signature is a bad one's, or was in what an honest node sent.
func (m *model) derivable(x api.Msg) bool {
	for _, s := range wire.Terms(x) {
		if !slices.Contains(m.bad, s.By) && !m.noted[s] {
			return false
		}
	}
	return true
}

// aReplica and aClient are what a replica and a client tell, whoever holds them.
type aReplica interface {
	ID() int
	Epoch() int
	View() int
	Active() bool
	Done() int
	Left() int
	Halted() bool
	Size() int
	State() string
	Chain() []api.Link
	History() []api.Entry
}

type aClient interface {
	Open() (api.Request, bool)
	Epoch() int
	Chain() []api.Link
	Accepted() []api.Entry
	Results() []api.Result
}

// tellReplica and tellClient answer a text of all that can be asked.

func tellReplica(r aReplica) string {
	var b strings.Builder
	fmt.Fprintln(&b, r.ID(), r.Epoch(), r.View(), r.Active(), r.Done(), r.Left(), r.Halted(), r.Size())
	fmt.Fprintf(&b, "%q\n", r.State())
	tellLinks(&b, r.Chain())
	tellEntries(&b, r.History())
	return b.String()
}

func tellClient(c aClient) string {
	var b strings.Builder
	q, open := c.Open()
	fmt.Fprintf(&b, "%v %d %q\n", open, c.Epoch(), textOf(q))
	tellLinks(&b, c.Chain())
	tellEntries(&b, c.Accepted())
	for _, x := range c.Results() {
		fmt.Fprintf(&b, "%d %016x ", x.Code, math.Float64bits(x.Real))
	}
	return b.String()
}

func tellLinks(b *strings.Builder, links []api.Link) {
	for _, l := range links {
		fmt.Fprintf(b, "%d %v ", l.Conf.Epoch, l.Conf.Members)
		for _, s := range l.Sigs {
			fmt.Fprintf(b, "%d %q ", s.By, s.Text)
		}
	}
	b.WriteString("\n")
}

func tellEntries(b *strings.Builder, list []api.Entry) {
	for _, e := range list {
		fmt.Fprintf(b, "%d %q ", e.Slot, textOf(e.Req))
	}
	b.WriteString("\n")
}
