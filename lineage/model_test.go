package lineage_test

import (
	"math"
	"slices"
	"strings"
	"testing"

	"witan/api"
	"witan/lineage"
)

const (
	least     = 4
	most      = 10
	ids       = 16
	lastEpoch = 60
	maxLinks  = 64
)

// quorums answers how many members must agree, by how many there are, written out.
func quorums() map[int]int {
	return map[int]int{4: 3, 5: 4, 6: 4, 7: 5, 8: 6, 9: 6, 10: 7}
}

// modelRight tells if the configuration is right: its members are just what is left of them when they are sorted, once each, within the numbers.
func modelRight(c api.Conf) bool {
	var kept []int
	for id := range ids {
		if slices.Contains(c.Members, id) {
			kept = append(kept, id)
		}
	}
	return slices.Equal(kept, c.Members) && quorums()[len(kept)] > 0 && c.Epoch >= 0 && c.Epoch <= lastEpoch
}

// text answers the bytes of a configuration, right or not: what a member signs.
func text(c api.Conf) string {
	var s strings.Builder
	s.Write([]byte{67, byte(c.Epoch >> 8), byte(c.Epoch), byte(len(c.Members))})
	for _, id := range c.Members {
		s.WriteByte(byte(id))
	}
	return s.String()
}

// modelProof tells if just a quorum's members signed the text, each once, rising: the list is what is left of it when the members are gone through.
func modelProof(c api.Conf, text string, sigs []api.Sig) bool {
	var kept []api.Sig
	for _, id := range c.Members {
		if s := (api.Sig{By: id, Text: text}); slices.Contains(sigs, s) {
			kept = append(kept, s)
		}
	}
	return slices.Equal(sigs, kept) && len(kept) >= quorums()[len(c.Members)]
}

// modelValid asks for the errors from the last one on, so that the first one stands at the end.
func modelValid(old api.Conf, l api.Link) api.Errno {
	e := api.OK
	if !modelProof(old, text(l.Conf), l.Sigs) {
		e = api.ErrQuorum
	}
	if l.Conf.Epoch-1 != old.Epoch {
		e = api.ErrEpoch
	}
	if !modelRight(old) || !modelRight(l.Conf) {
		e = api.ErrArg
	}
	return e
}

// model is what a tracker knows, by the chapter's words.
type model struct {
	first api.Conf
	chain []api.Link
}

// last answers the configuration behind which the next link stands.
func (m *model) last() api.Conf { return confsOf(m.first, m.chain)[len(m.chain)] }

func (m *model) add(l api.Link) api.Errno {
	e := modelValid(m.last(), l)
	if e == api.OK {
		m.chain = append(slices.Clip(m.chain), l)
	}
	return e
}

func (m *model) take(chain []api.Link) api.Errno {
	if len(chain) > maxLinks {
		return api.ErrLong
	}
	confs := confsOf(m.first, chain)
	for i, l := range chain {
		if e := modelValid(confs[i], l); e != api.OK {
			return e
		}
	}
	for _, mine := range m.chain {
		for _, other := range chain {
			if mine.Conf.Epoch == other.Conf.Epoch && text(mine.Conf) != text(other.Conf) {
				return api.ErrOther
			}
		}
	}
	if len(chain) <= len(m.chain) {
		return api.ErrOld
	}
	m.chain = chain
	return api.OK
}

// confsOf answers the first configuration and those of the links.
func confsOf(first api.Conf, chain []api.Link) []api.Conf {
	confs := []api.Conf{first}
	for _, l := range chain {
		confs = append(confs, l.Conf)
	}
	return confs
}

// by answers the signatures of the text by these, in this order.
func by(text string, list ...int) []api.Sig {
	var sigs []api.Sig
	for _, id := range list {
		sigs = append(sigs, api.Sig{By: id, Text: text})
	}
	return sigs
}

func conf(epoch int, members ...int) api.Conf {
	return api.Conf{Epoch: epoch, Members: slices.Clone(members)}
}

// signed answers the configuration as a link that these signed.
func signed(c api.Conf, list ...int) api.Link {
	return api.Link{Conf: conf(c.Epoch, c.Members...), Sigs: by(text(c), list...)}
}

// firstOf answers the numbers 0 to n - 1.
func firstOf(n int) []int {
	var list []int
	for id := range n {
		list = append(list, id)
	}
	return list
}

// lastOf answers the n numbers up to 15.
func lastOf(n int) []int {
	var list []int
	for id := ids - n; id < ids; id++ {
		list = append(list, id)
	}
	return list
}

// spread answers n numbers from 0 to 15 with gaps between them.
func spread(n int) []int {
	var list []int
	for i := range n {
		list = append(list, i*15/(n-1))
	}
	return list
}

// councils answers right members of every number of them.
func councils() [][]int {
	var all [][]int
	for n := least; n <= most; n++ {
		all = append(all, firstOf(n), lastOf(n), spread(n))
	}
	return all
}

// chosen answers those of the list whose bits the set has.
func chosen(list []int, set int) []int {
	var kept []int
	for i, v := range list {
		if set>>i&1 == 1 {
			kept = append(kept, v)
		}
	}
	return kept
}

// membersOf answers who is a member in an epoch of the long history: from epoch to epoch somebody comes, goes, or both.
func membersOf(epoch int) []int {
	var list []int
	for i := range least + epoch%7 {
		list = append(list, (i+epoch)%ids)
	}
	slices.Sort(list)
	return list
}

// history answers the first configuration of the long history, and its links up to an epoch, each signed by just a quorum.
func history(to int) (api.Conf, []api.Link) {
	start := conf(0, membersOf(0)...)
	var chain []api.Link
	for epoch := 1; epoch <= to; epoch++ {
		old := membersOf(epoch - 1)
		chain = append(chain, signed(conf(epoch, membersOf(epoch)...), old[len(old)-quorums()[len(old)]:]...))
	}
	return start, chain
}

// signedByAll answers the chain with the signatures of all members instead of a quorum's.
func signedByAll(start api.Conf, chain []api.Link) []api.Link {
	confs := confsOf(start, chain)
	var list []api.Link
	for i, l := range chain {
		list = append(list, signed(l.Conf, confs[i].Members...))
	}
	return list
}

// wrongConfs answers configurations that are not right, by what is wrong. Of those whose members alone are wrong the epoch is as handed in.
func wrongConfs(epoch int) map[string]api.Conf {
	return map[string]api.Conf{
		"the zero one":         {},
		"no members":           {Epoch: epoch},
		"no members, of room":  {Epoch: epoch, Members: make([]int, 0, 8)},
		"one":                  conf(epoch, 3),
		"three":                conf(epoch, 1, 2, 3),
		"eleven":               conf(epoch, firstOf(11)...),
		"eleven, the last":     conf(epoch, lastOf(11)...),
		"sixteen":              conf(epoch, firstOf(16)...),
		"falling":              conf(epoch, 4, 3, 2, 1),
		"not rising, first":    conf(epoch, 1, 0, 2, 3),
		"not rising, last":     conf(epoch, 0, 1, 3, 2),
		"twice, first":         conf(epoch, 0, 0, 1, 2, 3),
		"twice, last":          conf(epoch, 0, 1, 2, 15, 15),
		"all the same":         conf(epoch, 7, 7, 7, 7),
		"four, three unlike":   conf(epoch, 0, 1, 2, 2),
		"-1":                   conf(epoch, -1, 0, 1, 2, 3),
		"16":                   conf(epoch, 0, 1, 2, 3, 16),
		"a client":             conf(epoch, 0, 1, 2, 101),
		"the least int":        conf(epoch, math.MinInt, 0, 1, 2, 3),
		"the greatest int":     conf(epoch, 0, 1, 2, 3, math.MaxInt),
		"the epoch -1":         conf(-1, firstOf(4)...),
		"the epoch 61":         conf(61, firstOf(4)...),
		"the epoch 65536":      conf(65536, lastOf(10)...),
		"the least epoch":      conf(math.MinInt, firstOf(7)...),
		"the greatest epoch":   conf(math.MaxInt, firstOf(7)...),
		"wrong all over":       conf(-5, 16, 3, 3, -1, math.MaxInt, 0, math.MinInt),
		"very many, the same":  {Epoch: epoch, Members: make([]int, 100000)},
		"an epoch beside none": {Epoch: lastEpoch},
	}
}

// sameConf tells if both are of one epoch and one list of members.
func sameConf(a, b api.Conf) bool {
	return a.Epoch == b.Epoch && slices.Equal(a.Members, b.Members)
}

func sameLink(a, b api.Link) bool {
	return sameConf(a.Conf, b.Conf) && slices.Equal(a.Sigs, b.Sigs)
}

func sameChain(a, b []api.Link) bool { return slices.EqualFunc(a, b, sameLink) }

// copied answers the chain in memory of its own.
func copied(chain []api.Link) []api.Link {
	var list []api.Link
	for _, l := range chain {
		list = append(list, api.Link{Conf: conf(l.Conf.Epoch, l.Conf.Members...), Sigs: slices.Clone(l.Sigs)})
	}
	return list
}

// spoil writes over all that the chain's lists hold.
func spoil(chain []api.Link) {
	for i, l := range chain {
		spoilConf(l.Conf)
		for k := range l.Sigs {
			l.Sigs[k] = api.Sig{By: -7, Text: "spoilt"}
		}
		chain[i] = api.Link{Conf: api.Conf{Epoch: -7}}
	}
}

func spoilConf(c api.Conf) {
	for i := range c.Members {
		c.Members[i] = -7
	}
}

// short answers a link as it may be told of: of long lists no more than their lengths.
func short(l api.Link) any {
	if len(l.Conf.Members) > 20 || len(l.Sigs) > 20 {
		return []int{l.Conf.Epoch, len(l.Conf.Members), len(l.Sigs)}
	}
	return l
}

func expectValid(t *testing.T, old api.Conf, l api.Link, want api.Errno) {
	t.Helper()
	if got := lineage.Valid(old, l); got != want {
		t.Errorf("Valid(%v, %.20q): %d, not %d", short(api.Link{Conf: old}), short(l), got, want)
	}
}

func expectTake(t *testing.T, x *lineage.Tracker, chain []api.Link, want api.Errno) {
	t.Helper()
	if got := x.Take(chain); got != want {
		t.Errorf("Take of %d links: %d, not %d", len(chain), got, want)
	}
}

func expectAdd(t *testing.T, x *lineage.Tracker, l api.Link, want api.Errno) {
	t.Helper()
	if got := x.Add(l); got != want {
		t.Errorf("Add(%.20q): %d, not %d", short(l), got, want)
	}
}

// farEpochs answers epochs that nobody knows.
func farEpochs() []int {
	return []int{-1, -2, -60, 61, 62, 64, 65, 100, 65535, 65536, 1 << 31, -1 << 31, 1 << 32, math.MinInt, math.MinInt + 1, math.MaxInt - 1, math.MaxInt}
}

// expectKnown expects that the tracker knows the first configuration and just this chain.
func expectKnown(t *testing.T, x *lineage.Tracker, start api.Conf, chain []api.Link) {
	t.Helper()
	if got := x.Epoch(); got != len(chain) {
		t.Errorf("Epoch: %d, not %d", got, len(chain))
	}
	if got := x.Chain(); !sameChain(got, chain) {
		t.Errorf("Chain: %d links, not these %d", len(got), len(chain))
	}
	for epoch, want := range confsOf(start, chain) {
		if got, ok := x.At(epoch); !ok || !sameConf(got, want) {
			t.Errorf("At(%d): %v %v, not %v", epoch, got, ok, want)
		}
	}
	expectUnknown(t, x, len(chain)+1, len(chain)+2)
	expectUnknown(t, x, farEpochs()...)
}

func expectUnknown(t *testing.T, x *lineage.Tracker, epochs ...int) {
	t.Helper()
	for _, epoch := range epochs {
		if got, ok := x.At(epoch); ok || !sameConf(got, api.Conf{}) {
			t.Errorf("At(%d): %v %v", epoch, got, ok)
		}
	}
}

// tracker answers a tracker that knows the first configuration and this chain.
func tracker(t *testing.T, start api.Conf, chain []api.Link) *lineage.Tracker {
	t.Helper()
	x, e := lineage.New(start)
	if e != api.OK || x == nil {
		t.Fatalf("New(%v): %d", start, e)
	}
	for _, l := range chain {
		expectAdd(t, x, l, api.OK)
	}
	return x
}
