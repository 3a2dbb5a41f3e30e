package lineage_test

import (
	"slices"
	"testing"

	"witan/api"
	"witan/lineage"
)

// P10.1: New.

func TestANewTrackerKnowsTheFirstConfigurationAlone(t *testing.T) {
	for _, members := range councils() {
		expectKnown(t, tracker(t, conf(0, members...), nil), conf(0, members...), nil)
	}
}

func expectNoTracker(t *testing.T, what string, first api.Conf) {
	t.Helper()
	if x, e := lineage.New(first); x != nil || e != api.ErrArg {
		t.Errorf("New, %s: %v %d", what, x, e)
	}
}

func TestNewOfAWrongFirstConfiguration(t *testing.T) {
	for name, c := range wrongConfs(0) {
		expectNoTracker(t, name, c)
	}
	for epoch := -3; epoch <= lastEpoch+3; epoch++ {
		if epoch != 0 {
			expectNoTracker(t, "another epoch", conf(epoch, 0, 1, 2, 3))
		}
	}
	for _, epoch := range farEpochs() {
		expectNoTracker(t, "a far epoch", conf(epoch, firstOf(7)...))
	}
}

// P10.1: Add.

func TestAddLinkByLink(t *testing.T) {
	start, chain := history(lastEpoch)
	x := tracker(t, start, nil)
	for i, l := range chain {
		expectAdd(t, x, l, api.OK)
		expectKnown(t, x, start, chain[:i+1])
	}
	// No epoch follows the last one.
	members := membersOf(lastEpoch)
	expectAdd(t, x, signed(conf(61, members...), members...), api.ErrArg)
	expectAdd(t, x, signed(conf(60, members...), members...), api.ErrEpoch)
	expectAdd(t, x, chain[59], api.ErrEpoch)
	expectKnown(t, x, start, chain)
}

// A link that is known already, or one too far on, is none behind the last configuration.
func TestAddOfEachLink(t *testing.T) {
	start, chain := history(12)
	for k := range chain {
		x := tracker(t, start, chain[:k])
		for i, l := range chain {
			if i != k {
				expectAdd(t, x, l, api.ErrEpoch)
				expectKnown(t, x, start, chain[:k])
			}
		}
	}
}

func TestAddOfWrongLinks(t *testing.T) {
	start, chain := history(12)
	for k := range chain {
		x := tracker(t, start, chain[:k])
		for name, w := range wrongLinks(start, chain, k) {
			if e := x.Add(w.link); e != w.want {
				t.Errorf("%s: %d, not %d", name, e, w.want)
			}
			expectKnown(t, x, start, chain[:k])
		}
		expectAdd(t, x, chain[k], api.OK)
		expectKnown(t, x, start, chain[:k+1])
	}
}

// wrong is a link that isn't good in its place, and what is told of it.
type wrong struct {
	link api.Link
	want api.Errno
}

// wrongLinks answers links that may not stand in the chain's place k, by what is wrong.
func wrongLinks(start api.Conf, chain []api.Link, k int) map[string]wrong {
	old, c := confsOf(start, chain)[k], chain[k].Conf
	quorum := quorums()[len(old.Members)]
	list := old.Members[:quorum]
	turned := slices.Clone(list)
	turned[0], turned[1] = turned[1], turned[0]
	stranger := slices.Clone(list)
	for slices.Contains(old.Members, stranger[0]) {
		stranger[0]--
	}
	links := map[string]wrong{
		"the zero link":       {api.Link{}, api.ErrArg},
		"not signed":          {signed(c), api.ErrQuorum},
		"one too few":         {signed(c, list[1:]...), api.ErrQuorum},
		"one twice":           {signed(c, append(slices.Clone(list[1:]), list[quorum-1])...), api.ErrQuorum},
		"turned":              {signed(c, turned...), api.ErrQuorum},
		"by a stranger":       {signed(c, stranger...), api.ErrQuorum},
		"of another text":     {api.Link{Conf: c, Sigs: by(text(conf(c.Epoch+1, c.Members...)), list...)}, api.ErrQuorum},
		"of the old text":     {api.Link{Conf: c, Sigs: by(text(old), list...)}, api.ErrQuorum},
		"of no text":          {api.Link{Conf: c, Sigs: by("", list...)}, api.ErrQuorum},
		"the epoch behind":    {signed(conf(c.Epoch+1, c.Members...), list...), api.ErrEpoch},
		"the epoch before":    {signed(conf(c.Epoch-1, c.Members...), list...), api.ErrEpoch},
		"the last epoch":      {signed(conf(lastEpoch, c.Members...), list...), api.ErrEpoch},
		"falling members":     {signed(conf(c.Epoch, 3, 2, 1, 0), list...), api.ErrArg},
		"three members":       {signed(conf(c.Epoch, 0, 1, 2), list...), api.ErrArg},
		"an epoch of nobody":  {signed(conf(lastEpoch+1, c.Members...), list...), api.ErrArg},
		"an epoch below 0":    {signed(conf(-1, c.Members...), list...), api.ErrArg},
		"a wrong one, no sig": {signed(conf(c.Epoch+1, 0, 1, 2)), api.ErrArg},
		"far off, no sig":     {signed(conf(c.Epoch+1, c.Members...)), api.ErrEpoch},
	}
	return links
}

// P10.1: Take.

func TestTakeOfNone(t *testing.T) {
	start, chain := history(3)
	for k := range 4 {
		x := tracker(t, start, chain[:k])
		expectTake(t, x, nil, api.ErrOld)
		expectTake(t, x, []api.Link{}, api.ErrOld)
		expectTake(t, x, make([]api.Link, 0, 70), api.ErrOld)
		expectKnown(t, x, start, chain[:k])
	}
}

// Who knows a chain of one length takes it at each other one: news is what is longer alone.
func TestTakeOfEveryLengthByEveryLength(t *testing.T) {
	start, chain := history(20)
	for mine := range len(chain) + 1 {
		for other := range len(chain) + 1 {
			x := tracker(t, start, chain[:mine])
			want := api.ErrOld
			if other > mine {
				want = api.OK
			}
			expectTake(t, x, chain[:other], want)
			expectKnown(t, x, start, chain[:max(mine, other)])
			expectTake(t, x, chain[:other], api.ErrOld)
			expectKnown(t, x, start, chain[:max(mine, other)])
		}
	}
}

func TestTakeToTheLastEpoch(t *testing.T) {
	start, chain := history(lastEpoch)
	x := tracker(t, start, nil)
	expectTake(t, x, chain, api.OK)
	expectKnown(t, x, start, chain)
	expectTake(t, x, chain, api.ErrOld)
	expectTake(t, tracker(t, start, chain[:59]), chain, api.OK)
}

// Sixty links are all there are: in a chain of 61 to 64 the sixty-first is wrong, and in one of 65 the number.
func TestTakeOfTooManyLinks(t *testing.T) {
	start, chain := history(lastEpoch)
	members := membersOf(lastEpoch)
	past := signed(conf(61, members...), members...)
	again := signed(conf(60, members...), members...)
	for n := lastEpoch + 1; n <= maxLinks+6; n++ {
		for l, want := range map[*api.Link]api.Errno{&past: api.ErrArg, &again: api.ErrEpoch} {
			long := slices.Clone(chain)
			for len(long) < n {
				long = append(long, *l)
			}
			if n > maxLinks {
				want = api.ErrLong
			}
			for _, k := range []int{0, 1, 30, 60} {
				x := tracker(t, start, chain[:k])
				expectTake(t, x, long, want)
				expectKnown(t, x, start, chain[:k])
			}
		}
	}
}

// R1: that there are too many is told ahead of what is wrong with one of them.
func TestTooManyIsToldAheadOfAWrongLink(t *testing.T) {
	start, chain := history(2)
	for k := range 3 {
		x := tracker(t, start, chain[:k])
		for _, l := range []api.Link{{}, chain[0], signed(conf(1, 0, 1, 2, 3)), signed(conf(2, 0, 1, 2, 3), 0, 1, 2)} {
			expectTake(t, x, slices.Repeat([]api.Link{l}, maxLinks+1), api.ErrLong)
			expectTake(t, x, slices.Repeat([]api.Link{l}, 100000), api.ErrLong)
			if got := x.Take(slices.Repeat([]api.Link{l}, maxLinks)); got == api.ErrLong || got == api.OK {
				t.Errorf("64 links: %d", got)
			}
		}
		expectKnown(t, x, start, chain[:k])
	}
}

// A wrong link at each place, by who knows none, some or all of the chain: nothing of it is taken.
func TestTakeOfAWrongLinkAtEachPlace(t *testing.T) {
	start, chain := history(9)
	for place := range chain {
		for name, w := range wrongLinks(start, chain, place) {
			broken := copied(chain)
			broken[place] = w.link
			for k := range len(chain) + 1 {
				x := tracker(t, start, chain[:k])
				for _, end := range []int{place + 1, len(chain)} {
					if e := x.Take(broken[:end]); e != w.want {
						t.Errorf("%s at %d, of %d: %d, not %d", name, place, end, e, w.want)
					}
				}
				if !sameChain(x.Chain(), chain[:k]) {
					t.Errorf("%s at %d: something was taken", name, place)
				}
			}
		}
	}
}

// A link is behind the one ahead of it: none may be left out, doubled, or stand elsewhere.
func TestTakeOfAChainThatIsOutOfRow(t *testing.T) {
	start, chain := history(8)
	x := tracker(t, start, chain[:2])
	for i := range chain {
		if i+1 < len(chain) {
			expectTake(t, x, slices.Delete(copied(chain), i, i+1), api.ErrEpoch)
			turned := copied(chain)
			turned[i], turned[i+1] = turned[i+1], turned[i]
			expectTake(t, x, turned, api.ErrEpoch)
		}
		expectTake(t, x, slices.Insert(copied(chain), i, chain[i]), api.ErrEpoch)
		if i > 0 {
			expectTake(t, x, chain[i:], api.ErrEpoch) // the whole chain is asked, not what is new alone
		}
	}
	expectKnown(t, x, start, chain[:2])
	expectTake(t, x, chain, api.OK)
	expectKnown(t, x, start, chain)
}

// R1: of two wrong links the first one is told, whatever each is.
func TestTheFirstWrongLinkIsTold(t *testing.T) {
	start, chain := history(5)
	for _, k := range []int{0, 2, 5} {
		x := tracker(t, start, chain[:k])
		for i := range chain {
			for j := i + 1; j < len(chain); j++ {
				for _, one := range wrongLinks(start, chain, i) {
					for _, two := range wrongLinks(start, chain, j) {
						broken := copied(chain)
						broken[i], broken[j] = one.link, two.link
						expectTake(t, x, broken, one.want)
					}
				}
			}
		}
		expectKnown(t, x, start, chain[:k])
	}
}

// fork answers the first links of the chain, then a link with other members, and links behind it, all signed as they must be, up to a length.
func fork(start api.Conf, chain []api.Link, at, length int) []api.Link {
	list := copied(chain[:at])
	for len(list) < length {
		old := confsOf(start, list)[len(list)]
		members := spread(6)
		if slices.Equal(members, membersOf(len(list)+1)) {
			members = spread(5)
		}
		list = append(list, signed(conf(len(list)+1, members...), old.Members...))
	}
	return list
}

// A chain that is good all along, and other than what is known, is refused wherever it leaves it; where that isn't known, it is taken.
func TestTakeOfForks(t *testing.T) {
	start, chain := history(9)
	for at := range chain {
		for length := at + 1; length <= 12; length++ {
			other := fork(start, chain, at, length)
			for k := range len(chain) + 1 {
				x := tracker(t, start, chain[:k])
				if k <= at {
					expectTake(t, x, other, api.OK)
					expectKnown(t, x, start, other)
					expectTake(t, x, chain, api.ErrOther) // and now the first one is the other one
					expectKnown(t, x, start, other)
					continue
				}
				expectTake(t, x, other, api.ErrOther)
				expectKnown(t, x, start, chain[:k])
			}
		}
	}
}

// R1: a wrong link is told ahead of other members, and these ahead of no news.
func TestOrderOfTakesErrors(t *testing.T) {
	start, chain := history(6)
	x := tracker(t, start, chain)
	for length := 1; length <= 8; length++ {
		other := fork(start, chain, 0, length)
		expectTake(t, x, other, api.ErrOther)
		last := other[length-1]
		other[length-1].Sigs = last.Sigs[1:2]
		expectTake(t, x, other, api.ErrQuorum)
		other[length-1] = signed(conf(length+1, last.Conf.Members...), 0)
		expectTake(t, x, other, api.ErrEpoch)
		other[length-1] = signed(conf(length, 3, 2, 1, 0), 0)
		expectTake(t, x, other, api.ErrArg)
	}
	short := copied(chain[:3])
	short[2].Sigs = nil
	expectTake(t, x, short, api.ErrQuorum)
	expectKnown(t, x, start, chain)
}

// One member more, one fewer, one exchanged: each is other members.
func TestEachOtherMember(t *testing.T) {
	start := conf(0, 0, 1, 2, 3)
	mine := []int{0, 1, 2, 3, 9}
	x := tracker(t, start, []api.Link{signed(conf(1, mine...), 0, 1, 2)})
	for set := range 1 << ids {
		members := chosen(firstOf(ids), set)
		want := api.ErrOther
		if slices.Equal(members, mine) {
			want = api.ErrOld
		}
		if len(members) < least || len(members) > most {
			want = api.ErrArg
		}
		expectTake(t, x, []api.Link{signed(conf(1, members...), 0, 1, 2)}, want)
	}
	expectKnown(t, x, start, []api.Link{signed(conf(1, mine...), 0, 1, 2)})
}

// Other signatures are no other members: a longer chain is taken with them, a chain as long isn't.
func TestTheSameMembersWithOtherSignatures(t *testing.T) {
	start, chain := history(9)
	all := signedByAll(start, chain)
	for k := range len(chain) + 1 {
		x := tracker(t, start, chain[:k])
		expectTake(t, x, all[:k], api.ErrOld)
		expectKnown(t, x, start, chain[:k])
		if k < len(chain) {
			expectTake(t, x, all[:k+1], api.OK)
			expectKnown(t, x, start, all[:k+1])
			expectTake(t, x, chain, map[bool]api.Errno{true: api.OK, false: api.ErrOld}[k+1 < len(chain)])
		}
	}
}

// Behind a chain that was taken a link is added, and the other way round.
func TestAddBehindTake(t *testing.T) {
	start, chain := history(7)
	x := tracker(t, start, chain[:1])
	expectTake(t, x, chain[:4], api.OK)
	expectAdd(t, x, chain[3], api.ErrEpoch)
	expectAdd(t, x, chain[4], api.OK)
	expectKnown(t, x, start, chain[:5])
	expectTake(t, x, chain[:5], api.ErrOld)
	expectTake(t, x, chain, api.OK)
	expectKnown(t, x, start, chain)
}

// The chapter's examples.

func TestAChainWhoseSecondLinkIsWrongIsRefusedWholly(t *testing.T) {
	start := conf(0, 0, 1, 2, 3)
	one, two, three := signed(conf(1, 0, 1, 2, 3, 4), 0, 1, 2), signed(conf(2, 0, 1, 2, 3), 0, 1, 2), signed(conf(3, 0, 1, 2, 3), 0, 1, 2)
	x := tracker(t, start, nil)
	expectTake(t, x, []api.Link{one, two}, api.ErrQuorum)
	expectTake(t, x, []api.Link{one, two, three}, api.ErrQuorum)
	expectKnown(t, x, start, nil)
	expectTake(t, x, []api.Link{one}, api.OK)
	expectTake(t, x, []api.Link{one, two, three}, api.ErrQuorum)
	expectKnown(t, x, start, []api.Link{one})
}

func TestAChainAsLongAsTheOneThatIsKnown(t *testing.T) {
	start := conf(0, 0, 1, 2, 3)
	chain := []api.Link{signed(conf(1, 0, 1, 2, 3, 4), 0, 1, 2), signed(conf(2, 0, 1, 2, 3), 0, 1, 2, 4)}
	x := tracker(t, start, nil)
	expectTake(t, x, chain, api.OK)
	expectTake(t, x, chain, api.ErrOld)
	expectKnown(t, x, start, chain)
}

// R7: a nil tracker.

func TestNilTracker(t *testing.T) {
	start, chain := history(2)
	var x *lineage.Tracker
	long := slices.Repeat(chain, 50)
	for _, list := range [][]api.Link{nil, {}, chain, chain[:1], {{}}, long} {
		expectTake(t, x, list, api.ErrArg)
	}
	for _, l := range []api.Link{chain[0], chain[1], {}, {Conf: start}} {
		expectAdd(t, x, l, api.ErrArg)
	}
	if x.Epoch() != 0 || len(x.Chain()) != 0 {
		t.Error(x.Epoch(), x.Chain())
	}
	expectUnknown(t, x, 0, 1, 2, 60)
	expectUnknown(t, x, farEpochs()...)
}

// W0: a tracker that New didn't make knows nothing, and panics at nothing.
func TestZeroTracker(t *testing.T) {
	start, chain := history(2)
	x := &lineage.Tracker{}
	for _, list := range [][]api.Link{chain, chain[:1], {{}}, {{Conf: start}}} {
		expectTake(t, x, list, api.ErrArg)
	}
	if x.Take(nil) == api.OK {
		t.Error("a zero tracker takes no links")
	}
	expectAdd(t, x, chain[0], api.ErrArg)
	expectAdd(t, x, api.Link{}, api.ErrArg)
	if x.Epoch() != 0 || len(x.Chain()) != 0 {
		t.Error(x.Epoch(), x.Chain())
	}
	expectUnknown(t, x, 0, 1)
}
