package votes_test

import (
	"encoding/binary"
	"fmt"
	"slices"
	"testing"

	"witan/api"
	"witan/lineage"
	"witan/terms"
	"witan/votes"
)

const (
	least     = 4
	most      = 10
	ids       = 16
	lastEpoch = 60
)

// quorums answers how many members must agree, by how many there are, written out.
func quorums() map[int]int {
	return map[int]int{4: 3, 5: 4, 6: 4, 7: 5, 8: 6, 9: 6, 10: 7}
}

// faults answers how many members may be bad, by how many there are, written out.
func faults() map[int]int {
	return map[int]int{4: 1, 5: 1, 6: 1, 7: 2, 8: 2, 9: 2, 10: 3}
}

// areMembers tells if the list may be a configuration's: as many as may be, and just those of the numbers 0 to 15 that are in it, in their order.
func areMembers(list []int) bool {
	if len(list) < least || len(list) > most {
		return false
	}
	var sorted []int
	for id := range ids {
		if slices.Contains(list, id) {
			sorted = append(sorted, id)
		}
	}
	return slices.Equal(sorted, list)
}

func isRight(c api.Conf) bool {
	return c.Epoch > -1 && c.Epoch < lastEpoch+1 && areMembers(c.Members)
}

// stateText answers the text of a state behind the epoch's last slot.
func stateText(epoch int, text string) string {
	return string(binary.BigEndian.AppendUint32([]byte{83}, uint32(4*epoch+4))) + text
}

// confText answers the text of the configuration of an epoch.
func confText(epoch int, members []int) string {
	b := append(binary.BigEndian.AppendUint16([]byte{67}, uint16(epoch)), byte(len(members)))
	for _, id := range members {
		b = append(b, byte(id))
	}
	return string(b)
}

// own answers the two signatures that a vote of by's in the epoch has.
func own(by, epoch int, text string, next []int) []api.Sig {
	return []api.Sig{{By: by, Text: stateText(epoch, text)}, {By: by, Text: confText(epoch+1, next)}}
}

// vote is what somebody voted for.
type vote struct {
	from int
	text string
	next []int
}

func isAlike(a, b vote) bool { return a.text == b.text && slices.Equal(a.next, b.next) }

// model is a tally by the chapter's words: all votes that were taken stand in a list, and what is settled is found by going through it.
type model struct {
	conf  api.Conf
	votes []vote
}

// refuses answers what is wrong with a vote. The errors are asked from the last one on, so that the first one stands at the end.
func (m *model) refuses(v vote, sigs []api.Sig) api.Errno {
	e := api.OK
	if slices.ContainsFunc(m.votes, func(x vote) bool { return x.from == v.from }) {
		e = api.ErrSame
	}
	if !slices.Equal(sigs, own(v.from, m.conf.Epoch, v.text, v.next)) {
		e = api.ErrSig
	}
	if !slices.Contains(m.conf.Members, v.from) {
		e = api.ErrAbsent
	}
	if v.text == "" || !isRight(api.Conf{Epoch: m.conf.Epoch + 1, Members: v.next}) {
		e = api.ErrArg
	}
	return e
}

func (m *model) take(v vote, sigs []api.Sig) api.Errno {
	e := m.refuses(v, sigs)
	if e == api.OK {
		m.votes = append(m.votes, vote{v.from, v.text, slices.Clone(v.next)})
	}
	return e
}

// voters answers who voted so, rising.
func (m *model) voters(v vote) []int {
	var list []int
	for _, id := range m.conf.Members {
		if slices.ContainsFunc(m.votes, func(x vote) bool { return x.from == id && isAlike(x, v) }) {
			list = append(list, id)
		}
	}
	return list
}

func (m *model) settled() (votes.Settled, bool) {
	for _, v := range m.votes {
		if by := m.voters(v); len(by) >= quorums()[len(m.conf.Members)] {
			return shown(m.conf.Epoch, v.text, v.next, by), true
		}
	}
	return votes.Settled{}, false
}

// shown answers what is settled by the votes of these.
func shown(epoch int, text string, next, by []int) votes.Settled {
	s := votes.Settled{Text: text, Link: api.Link{Conf: conf(epoch+1, next...)}}
	for _, id := range by {
		s.Sigs = append(s.Sigs, own(id, epoch, text, next)[0])
		s.Link.Sigs = append(s.Link.Sigs, own(id, epoch, text, next)[1])
	}
	return s
}

func isSameSettled(a, b votes.Settled) bool {
	return a.Text == b.Text && slices.Equal(a.Sigs, b.Sigs) && a.Link.Conf.Epoch == b.Link.Conf.Epoch &&
		slices.Equal(a.Link.Conf.Members, b.Link.Conf.Members) && slices.Equal(a.Link.Sigs, b.Link.Sigs)
}

// short answers how it is told in a failure: states may be of many bytes.
func short(x any) string {
	s := fmt.Sprintf("%+v", x)
	return s[:min(len(s), 300)]
}

// pair is a tally and its model, which are told the same, and what was settled when it was last asked.
type pair struct {
	t      *testing.T
	y      *votes.Tally
	m      *model
	before votes.Settled
}

func tallyOf(t *testing.T, c api.Conf) *votes.Tally {
	t.Helper()
	y, e := votes.New(c)
	if e != api.OK || y == nil {
		t.Fatalf("New(%v): %d", c, e)
	}
	return y
}

func pairOf(t *testing.T, epoch int, members ...int) *pair {
	t.Helper()
	p := &pair{t: t, y: tallyOf(t, conf(epoch, members...)), m: &model{conf: conf(epoch, members...)}}
	p.stands()
	return p
}

// tell tells the tally what the model is told, without asking how both stand behind it.
func (p *pair) tell(v vote, sigs []api.Sig) api.Errno {
	p.t.Helper()
	got := p.y.Add(v.from, v.text, v.next, sigs)
	if want := p.m.take(v, sigs); got != want {
		p.t.Fatalf("Add(%s, %s): %d, not %d", short(v), short(sigs), got, want)
	}
	return got
}

// vote signs as the member should.
func (p *pair) vote(from int, text string, next []int, want api.Errno) {
	p.t.Helper()
	p.voteWith(from, text, next, own(from, p.m.conf.Epoch, text, next), want)
}

func (p *pair) voteWith(from int, text string, next []int, sigs []api.Sig, want api.Errno) {
	p.t.Helper()
	if got := p.tell(vote{from, text, next}, sigs); got != want {
		p.t.Errorf("Add(%d, %s, %s, %s): %d, not %d", from, short(text), short(next), short(sigs), got, want)
	}
	p.stands()
}

// stands asks if the tally answers as the model does.
func (p *pair) stands() {
	p.t.Helper()
	if got := p.y.Count(); got != len(p.m.votes) {
		p.t.Fatalf("Count: %d, not %d", got, len(p.m.votes))
	}
	got, ok := p.y.Settled()
	want, is := p.m.settled()
	if ok != is || !isSameSettled(got, want) {
		p.t.Fatalf("Settled: %s %v, not %s %v", short(got), ok, short(want), is)
	}
	p.isShown(got, ok)
	p.hasStayed(got)
}

// isShown asks the layers 9 and 10 of what is settled: P15.2's first sentence.
func (p *pair) isShown(s votes.Settled, ok bool) {
	p.t.Helper()
	if !ok {
		return
	}
	if e := lineage.Valid(p.m.conf, s.Link); e != api.OK {
		p.t.Fatalf("the link isn't good behind the configuration: %d", e)
	}
	if !terms.Proves(p.m.conf, stateText(p.m.conf.Epoch, s.Text), s.Sigs) {
		p.t.Fatalf("no proof: %s", short(s.Sigs))
	}
}

// hasStayed asks if what was settled is so still, and nobody's signature is gone: P15.2's second sentence.
func (p *pair) hasStayed(s votes.Settled) {
	p.t.Helper()
	was := p.before
	p.before = s
	if was.Text == "" {
		return
	}
	if s.Text != was.Text || !slices.Equal(s.Link.Conf.Members, was.Link.Conf.Members) {
		p.t.Fatalf("%s was settled, and now %s is", short(was), short(s))
	}
	for i, x := range was.Sigs {
		if !slices.Contains(s.Sigs, x) || !slices.Contains(s.Link.Sigs, was.Link.Sigs[i]) {
			p.t.Fatalf("%s is gone", short(x))
		}
	}
}

// expectSettled asks for what is written out.
func (p *pair) expectSettled(text string, next []int, by ...int) {
	p.t.Helper()
	want := shown(p.m.conf.Epoch, text, next, by)
	if got, ok := p.y.Settled(); !ok || !isSameSettled(got, want) {
		p.t.Errorf("Settled: %s %v, not %s", short(got), ok, short(want))
	}
}

func (p *pair) expectNothingSettled() {
	p.t.Helper()
	if got, ok := p.y.Settled(); ok || !isSameSettled(got, votes.Settled{}) {
		p.t.Errorf("Settled: %s %v", short(got), ok)
	}
}

func (p *pair) expectCount(want int) {
	p.t.Helper()
	if got := p.y.Count(); got != want {
		p.t.Errorf("Count: %d, not %d", got, want)
	}
}
