package lineage_test

import (
	"slices"
	"testing"

	"witan/api"
	"witan/lineage"
)

// R4: memory.

func TestWhatIsHandedInStays(t *testing.T) {
	start, chain := history(6)
	first, links := conf(0, start.Members...), copied(chain)
	x := tracker(t, first, links[:2])
	x.Take(links)
	x.Take(links)
	x.Take(fork(start, links, 3, 9))
	x.Add(links[5])
	if !sameConf(first, start) || !sameChain(links, chain) {
		t.Error("changed")
	}
}

func TestWhatIsHandedInIsntKept(t *testing.T) {
	start, chain := history(6)
	first, one, more := conf(0, start.Members...), copied(chain[:2]), copied(chain)
	x := tracker(t, first, one)
	spoilConf(first)
	spoil(one)
	expectKnown(t, x, start, chain[:2])
	expectTake(t, x, more, api.OK)
	spoil(more)
	expectKnown(t, x, start, chain)
	expectAdd(t, x, signed(conf(7, 0, 1, 2, 3), membersOf(6)...), api.OK)
}

func TestWhatIsAnsweredIsntKept(t *testing.T) {
	start, chain := history(6)
	added := tracker(t, start, chain)
	taken := tracker(t, start, nil)
	expectTake(t, taken, chain, api.OK)
	for _, x := range []*lineage.Tracker{added, taken} {
		for epoch := range len(chain) + 1 {
			c, _ := x.At(epoch)
			spoilConf(c)
		}
		spoil(x.Chain())
		expectKnown(t, x, start, chain)
		// Room behind what was answered isn't the tracker's either.
		list := x.Chain()
		for i := range list {
			_ = append(list[i].Sigs, api.Sig{By: -7})
			_ = append(list[i].Conf.Members, -7)
		}
		_ = append(list[:1], api.Link{})
		expectKnown(t, x, start, chain)
	}
}

// No two lists of one answer share memory, nor two answers.
func TestAnswersShareNoMemory(t *testing.T) {
	start, chain := history(4)
	same := []api.Link{signed(conf(1, start.Members...), start.Members...)}
	same = append(same, api.Link{Conf: api.Conf{Epoch: 2, Members: same[0].Conf.Members}, Sigs: by(text(conf(2, start.Members...)), start.Members...)})
	for _, links := range [][]api.Link{chain, same} {
		x := tracker(t, start, links)
		one, two := x.Chain(), x.Chain()
		for i := range one {
			spoilConf(one[i].Conf)
			if !sameChain(one[i+1:], links[i+1:]) {
				t.Errorf("link %d shares memory with one behind it", i)
			}
		}
		spoil(one)
		if !sameChain(two, links) {
			t.Error("two answers share memory")
		}
		c, _ := x.At(1)
		d, _ := x.At(1)
		spoilConf(c)
		if !sameConf(d, links[0].Conf) {
			t.Error("two configurations share memory")
		}
		expectKnown(t, x, start, links)
	}
}

// What an answer is made known from goes its own way.
func TestTrackersThatLearnFromOneAnotherAreApart(t *testing.T) {
	start, chain := history(5)
	one, two := tracker(t, start, chain[:3]), tracker(t, start, nil)
	expectTake(t, two, one.Chain(), api.OK)
	expectAdd(t, two, chain[3], api.OK)
	expectKnown(t, one, start, chain[:3])
	other := fork(start, chain, 3, 5)
	expectTake(t, one, other, api.OK)
	expectKnown(t, one, start, other)
	expectKnown(t, two, start, chain[:4])
}

// R6: asking changes nothing.
func TestAskedTwice(t *testing.T) {
	start, chain := history(5)
	x := tracker(t, start, chain)
	for range 3 {
		expectKnown(t, x, start, chain)
		lineage.Valid(start, chain[0])
		lineage.Valid(chain[4].Conf, signed(conf(6, 0, 1, 2, 3), chain[4].Conf.Members...))
	}
}

// P10.1, P10.2: every row of calls, held against the model, and against what was known ahead of each.

// call is a chain to take, or a link to add.
type call struct {
	takes bool
	chain []api.Link
}

// choices answers the members among which the short rows choose, and who signs for each: a quorum of the four alone, of the five alone, of both.
func choices() (members [][]int, signers [][]int) {
	return [][]int{{0, 1, 2, 3}, {0, 1, 2, 3, 4}}, [][]int{{0, 1, 2}, {0, 1, 2, 4}, {0, 1, 2, 3}}
}

// someLinks answers links of the epochs from one to another, by the choices.
func someLinks(from, to int) []api.Link {
	members, signers := choices()
	var links []api.Link
	for epoch := from; epoch <= to; epoch++ {
		for _, m := range members {
			for _, s := range signers {
				links = append(links, signed(conf(epoch, m...), s...))
			}
		}
	}
	return links
}

// shortCalls answers each link of the first three epochs to add, and chains of up to two links to take, with a few longer ones.
func shortCalls() []call {
	calls := []call{{takes: true}}
	for _, l := range someLinks(1, 3) {
		calls = append(calls, call{chain: []api.Link{l}})
	}
	for _, one := range someLinks(1, 1) {
		calls = append(calls, call{takes: true, chain: []api.Link{one}})
		for _, two := range someLinks(2, 2) {
			calls = append(calls, call{takes: true, chain: []api.Link{one, two}})
		}
	}
	good := signed(conf(1, 0, 1, 2, 3), 0, 1, 2)
	for _, three := range someLinks(3, 3) {
		calls = append(calls, call{takes: true, chain: []api.Link{good, signed(conf(2, 0, 1, 2, 3, 4), 0, 1, 2, 3), three}})
	}
	return calls
}

// expectGrown expects that all that was known ahead of a call stayed, and that the chain didn't get shorter.
func expectGrown(t *testing.T, before []api.Conf, x *lineage.Tracker) {
	t.Helper()
	if x.Epoch() < len(before)-1 {
		t.Errorf("Epoch: %d behind %d", x.Epoch(), len(before)-1)
	}
	for epoch, want := range before {
		if got, ok := x.At(epoch); !ok || !sameConf(got, want) {
			t.Errorf("At(%d): %v %v, but %v was known", epoch, got, ok, want)
		}
	}
}

// step makes the call in both, and holds them against one another.
func step(t *testing.T, x *lineage.Tracker, m *model, c call) {
	t.Helper()
	before := confsOf(m.first, m.chain)
	got, want := api.OK, api.OK
	if c.takes {
		got, want = x.Take(c.chain), m.take(c.chain)
	} else {
		got, want = x.Add(c.chain[0]), m.add(c.chain[0])
	}
	if got != want {
		t.Fatalf("%v behind epoch %d: %d, not %d", c, len(before)-1, got, want)
	}
	expectGrown(t, before, x)
	if chain := x.Chain(); x.Epoch() != len(m.chain) || !sameChain(chain, m.chain) {
		t.Fatalf("%v behind epoch %d: %v, not %v", c, len(before)-1, chain, m.chain)
	}
}

func TestEveryRowOfThreeCalls(t *testing.T) {
	start := conf(0, 0, 1, 2, 3)
	calls := shortCalls()
	for _, one := range calls {
		for _, two := range calls {
			for _, three := range calls {
				x, _ := lineage.New(start)
				m := &model{first: start}
				step(t, x, m, one)
				step(t, x, m, two)
				step(t, x, m, three)
			}
		}
	}
}

// numbers answers rows of numbers that look like chance, and are the same ever again.
type numbers uint64

func (n *numbers) below(limit int) int {
	*n = *n*6364136223846793005 + 1442695040888963407
	return int(uint64(*n) >> 33 % uint64(limit))
}

// anyMembers answers right members.
func (n *numbers) anyMembers() []int {
	list := firstOf(ids)
	for len(list) > least+n.below(most-least+1) || len(list) > most {
		at := n.below(len(list))
		list = slices.Delete(list, at, at+1)
	}
	return list
}

// signers answers at least a quorum of the members, or, now and then, fewer or others.
func (n *numbers) signers(members []int) []int {
	list := slices.Clone(members)
	for range n.below(len(list) - quorums()[len(list)] + 1) {
		at := n.below(len(list))
		list = slices.Delete(list, at, at+1)
	}
	switch n.below(24) {
	case 0:
		return list[1:]
	case 1:
		return slices.Insert(list, n.below(len(list)), n.below(ids))
	}
	return list
}

// next answers a link behind the configuration that is mostly good.
func (n *numbers) next(old api.Conf) api.Link {
	epoch := old.Epoch + 1
	if n.below(24) == 0 {
		epoch += n.below(3) - 1
	}
	return signed(conf(epoch, n.anyMembers()...), n.signers(old.Members)...)
}

// chain answers a chain that has some of the model's links, and others behind them.
func (n *numbers) chain(m *model) []api.Link {
	chain := copied(m.chain)
	if n.below(3) == 0 {
		chain = signedByAll(m.first, chain)
	}
	if n.below(3) == 0 {
		chain = chain[:n.below(len(chain)+1)]
	}
	for range n.below(4) {
		old := confsOf(m.first, chain)[len(chain)]
		if !modelRight(old) {
			break
		}
		chain = append(chain, n.next(old))
	}
	return chain
}

func TestLongRowsOfCalls(t *testing.T) {
	n := numbers(10)
	last := 0
	for range 60 {
		start := conf(0, n.anyMembers()...)
		x, m := tracker(t, start, nil), &model{first: start}
		for range 120 {
			if n.below(2) == 0 {
				step(t, x, m, call{chain: []api.Link{n.next(m.last())}})
			} else {
				step(t, x, m, call{takes: true, chain: n.chain(m)})
			}
		}
		expectKnown(t, x, start, m.chain)
		last = max(last, len(m.chain))
	}
	if last != lastEpoch {
		t.Errorf("no row got to the last epoch, but to %d", last)
	}
}

// P10.3: what one knows another one takes who knows less.

func TestWhatOneKnowsAnotherOneTakes(t *testing.T) {
	for _, length := range []int{1, 2, 3, 17, 59, lastEpoch} {
		start, chain := history(length)
		one := tracker(t, start, chain)
		for k := range length {
			for _, less := range [][]api.Link{chain[:k], signedByAll(start, chain[:k])} {
				two := tracker(t, start, less)
				expectTake(t, two, one.Chain(), api.OK)
				expectKnown(t, two, start, one.Chain())
				expectTake(t, one, two.Chain(), api.ErrOld)
				expectTake(t, two, one.Chain(), api.ErrOld)
			}
		}
		expectKnown(t, one, start, chain)
	}
}

// However a tracker came to what it knows: behind long rows of calls, wrong ones among them, those who know less take it, at each epoch of it.
func TestWhatOneKnowsAnotherOneTakesBehindLongRows(t *testing.T) {
	n := numbers(3)
	for range 40 {
		start := conf(0, n.anyMembers()...)
		one, m := tracker(t, start, nil), &model{first: start}
		for range n.below(60) {
			step(t, one, m, call{chain: []api.Link{n.next(m.last())}})
			step(t, one, m, call{takes: true, chain: n.chain(m)})
		}
		for k := range one.Epoch() {
			two := tracker(t, start, one.Chain()[:k])
			expectTake(t, two, one.Chain(), api.OK)
			expectKnown(t, two, start, one.Chain())
		}
	}
}

// Many who learn from one another know the same at the end, whoever asked whom.
func TestAllKnowTheSameAtTheEnd(t *testing.T) {
	start, chain := history(30)
	n := numbers(7)
	var all []*lineage.Tracker
	for k := range 6 {
		all = append(all, tracker(t, start, chain[:k*6]))
	}
	for range 400 {
		one, two := all[n.below(6)], all[n.below(6)]
		want := api.ErrOld
		if one.Epoch() > two.Epoch() {
			want = api.OK
		}
		expectTake(t, two, one.Chain(), want)
		if two.Epoch() < one.Epoch() || !sameChain(two.Chain(), chain[:two.Epoch()]) {
			t.Fatal("another chain")
		}
	}
	for _, x := range all {
		expectKnown(t, x, start, chain[:30])
	}
}

// Who has another first configuration takes nothing of a chain that its own members didn't sign.
func TestAnotherFirstConfiguration(t *testing.T) {
	start, chain := history(5)
	one := tracker(t, start, chain)
	two := tracker(t, conf(0, 8, 9, 10, 11), nil)
	expectTake(t, two, one.Chain(), api.ErrQuorum)
	expectAdd(t, two, chain[0], api.ErrQuorum)
	expectKnown(t, two, conf(0, 8, 9, 10, 11), nil)
}
