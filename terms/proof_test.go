package terms_test

import (
	"math"
	"math/bits"
	"slices"
	"strings"
	"testing"

	"witan/api"
	"witan/terms"
)

// P9.1: the chapter's examples.

func TestExamples(t *testing.T) {
	c := api.Conf{Members: []int{1, 2, 3, 4}}
	expectProves(t, c, "one text", by("one text", 1, 2, 4), true)
	expectProves(t, c, "one text", by("one text", 1, 1, 2), false)
}

// P9.1: proofs.

func TestProofByHowManySigned(t *testing.T) {
	for _, members := range councils() {
		c := conf(members...)
		quorum := quorums()[len(members)]
		for n := range len(members) + 1 {
			expectProves(t, c, "x", by("x", members[:n]...), n >= quorum)
			expectProves(t, c, "x", by("x", members[len(members)-n:]...), n >= quorum)
		}
		expectProves(t, c, "x", nil, false)
		expectProves(t, c, "x", []api.Sig{}, false)
	}
}

func TestProofInEachEpoch(t *testing.T) {
	for epoch := -3; epoch <= 70; epoch++ {
		c := api.Conf{Epoch: epoch, Members: spread(7)}
		expectProves(t, c, "x", by("x", spread(7)[1:6]...), epoch >= 0 && epoch <= 60)
	}
}

// Every set of signers of every number of members: by how many there are, and by nothing else.
func TestProofOfEverySetOfSigners(t *testing.T) {
	for _, members := range councils() {
		c := conf(members...)
		for set := range 1 << len(members) {
			sigs := by("x", chosen(members, set)...)
			expectProves(t, c, "x", sigs, bits.OnesCount(uint(set)) >= quorums()[len(members)])
			expectGather(t, c, "x", sigs, sigs)
		}
	}
}

// Every set of all sixteen replicas, for one configuration: one signer too many who is no member spoils it.
func TestProofOfEverySetOfReplicas(t *testing.T) {
	members := []int{0, 3, 4, 9, 15}
	c := conf(members...)
	for set := range 1 << ids {
		list := chosen(first(ids), set)
		among := modelGather(c, "x", by("x", list...))
		if got := terms.Proves(c, "x", by("x", list...)); got != (len(among) == len(list) && len(list) >= 4) {
			t.Fatalf("by %v: %v", list, got)
		}
		if got := terms.Gather(c, "x", by("x", list...)); !slices.Equal(got, among) {
			t.Fatalf("by %v: %v", list, got)
		}
	}
}

// A quorum of right ones doesn't make up for a wrong one, wherever it stands.
func TestProofWithOneWrongSignature(t *testing.T) {
	for _, members := range councils() {
		c := conf(members...)
		sigs := by("x", members...)
		for i := range sigs {
			for _, text := range []string{"", "X", "x ", "x\x00", "xx", "y"} {
				wrong := slices.Clone(sigs)
				wrong[i].Text = text
				expectProves(t, c, "x", wrong, false)
				expectGather(t, c, "x", wrong, slices.Delete(slices.Clone(sigs), i, i+1))
			}
			for _, id := range oddNumbers() {
				wrong := slices.Clone(sigs)
				wrong[i].By = id
				expectProves(t, c, "x", wrong, false)
				expectGather(t, c, "x", wrong, slices.Delete(slices.Clone(sigs), i, i+1))
			}
			again := slices.Insert(slices.Clone(sigs), i, sigs[i])
			expectProves(t, c, "x", again, false)
			expectGather(t, c, "x", again, sigs)
			other := slices.Insert(slices.Clone(sigs), i, api.Sig{By: sigs[i].By, Text: "y"})
			expectProves(t, c, "x", other, false)
			expectGather(t, c, "x", other, sigs)
		}
	}
}

// One who is no member stands rising among those who are.
func TestProofWithOneWhoIsNoMember(t *testing.T) {
	members := []int{2, 5, 8, 11, 14}
	c := conf(members...)
	for _, id := range append(oddNumbers(), 0, 1, 3, 4, 6, 7, 9, 10, 12, 13, 15) {
		list := append(slices.Clone(members), id)
		slices.Sort(list)
		expectProves(t, c, "x", by("x", list...), false)
		expectGather(t, c, "x", by("x", list...), by("x", members...))
	}
}

func TestProofInEveryOrder(t *testing.T) {
	for _, members := range [][]int{{1, 2, 3, 4}, {0, 1, 2, 3, 4}, {1, 3, 5, 7, 9, 15}, last(7)} {
		c := conf(members...)
		orders(members, func(list []int) {
			expectProves(t, c, "x", by("x", list...), slices.IsSorted(list))
			expectGather(t, c, "x", by("x", list...), by("x", members...))
		})
	}
}

// Every two neighbours of ten changed for one another.
func TestProofWithTwoTurned(t *testing.T) {
	c := conf(spread(10)...)
	for i := range 9 {
		list := spread(10)
		list[i], list[i+1] = list[i+1], list[i]
		expectProves(t, c, "x", by("x", list...), false)
		expectGather(t, c, "x", by("x", list...), by("x", spread(10)...))
	}
}

// Every list of up to five out of members, others, and another text.
func TestEveryShortList(t *testing.T) {
	choices := append(by("x", 1, 2, 4, 7, 0, 5), by("y", 1, 7)...)
	c := conf(1, 2, 4, 7)
	for n := range 6 {
		rows(choices, n, func(sigs []api.Sig) { expectAsModel(t, c, "x", sigs) })
	}
}

func TestSixteenAndSeventeenSignatures(t *testing.T) {
	c := conf(first(10)...)
	all := by("x", first(10)...)
	expectProves(t, c, "x", all, true)
	expectProves(t, c, "x", by("x", first(16)...), false)
	expectProves(t, c, "x", by("x", first(17)...), false)
	expectGather(t, c, "x", by("x", first(16)...), all)
	expectGather(t, c, "x", by("x", first(17)...), all)
	for n := 11; n <= 18; n++ {
		var sigs []api.Sig
		for i := range n {
			sigs = append(sigs, all[i*10/n])
		}
		expectProves(t, c, "x", sigs, false)
		expectGather(t, c, "x", sigs, all)
	}
	// No right configuration has so many members that sixteen of them could sign.
	expectProves(t, conf(first(16)...), "x", by("x", first(16)...), false)
	expectProves(t, conf(first(17)...), "x", by("x", first(17)...), false)
	expectGather(t, conf(first(17)...), "x", by("x", first(17)...), by("x", first(17)...))
}

func TestEachMemberTwice(t *testing.T) {
	for _, members := range councils() {
		c := conf(members...)
		var beside []api.Sig
		for _, s := range by("x", members...) {
			beside = append(beside, s, s)
		}
		behind := append(by("x", members...), by("x", members...)...)
		for _, sigs := range [][]api.Sig{beside, behind} {
			expectProves(t, c, "x", sigs, false)
			expectGather(t, c, "x", sigs, by("x", members...))
		}
		// A quorum's number of signatures by one fewer.
		few := by("x", members[:quorums()[len(members)]-1]...)
		few = append(few, few[len(few)-1])
		expectProves(t, c, "x", few, false)
		expectGather(t, c, "x", few, few[:len(few)-1])
	}
}

// Every two unlike texts, near ones and long ones, the empty one among them.
func TestTextsAreComparedWhole(t *testing.T) {
	c := conf(0, 5, 10, 15)
	for _, text := range unlikeTexts() {
		for _, other := range unlikeTexts() {
			sigs := by(text, 0, 10, 15)
			expectProves(t, c, other, sigs, text == other)
			if text == other {
				expectGather(t, c, other, sigs, sigs)
			} else {
				expectGather(t, c, other, sigs, nil)
			}
		}
	}
}

// A text is compared by its bytes, not by where they lie.
func TestTextsOfOtherMemory(t *testing.T) {
	text := strings.Repeat("ab", 1000)
	same := string([]byte(text))
	c := conf(1, 2, 3, 4)
	expectProves(t, c, same, by(text, 1, 2, 3), true)
	expectGather(t, c, same, by(text, 1, 2, 3), by(text, 1, 2, 3))
}

// P9.1: wrong configurations. Nothing is a proof for them; who of their members signed is told of all.

func TestNothingIsAProofForAWrongConfiguration(t *testing.T) {
	for name, c := range wrongConfs() {
		lists := [][]api.Sig{nil, by("x", c.Members...), by("x", first(3)...), by("x", first(4)...), by("x", first(10)...), by("x", last(10)...), by("x", 0, 1, 2, 3)}
		sorted := slices.Compact(slices.Sorted(slices.Values(c.Members)))
		lists = append(lists, by("x", sorted...))
		for _, sigs := range lists {
			if terms.Proves(c, "x", sigs) {
				t.Errorf("%s: %d signatures are a proof", name, len(sigs))
			}
		}
	}
}

func TestGatherOfAnyConfiguration(t *testing.T) {
	for name, c := range wrongConfs() {
		if len(c.Members) > 100 {
			continue
		}
		all := slices.Compact(slices.Sorted(slices.Values(c.Members)))
		for _, list := range [][]int{c.Members, all, first(16), last(5), oddNumbers(), nil} {
			sigs := append(by("x", list...), by("y", list...)...)
			want := modelGather(c, "x", sigs)
			if got := terms.Gather(c, "x", sigs); !slices.Equal(got, want) || terms.Count(c, "x", sigs) != len(want) {
				t.Errorf("%s: by %v: %v, not %v", name, list, got, want)
			}
		}
		expectGather(t, c, "x", by("x", c.Members...), by("x", all...))
	}
}

// The epoch is nothing that Count and Gather ask for.
func TestGatherInEachEpoch(t *testing.T) {
	for _, epoch := range []int{-1, 0, 60, 61, math.MinInt, math.MaxInt} {
		expectGather(t, api.Conf{Epoch: epoch, Members: first(4)}, "x", by("x", 3, 1), by("x", 1, 3))
	}
}

func TestOddNumbersSign(t *testing.T) {
	c := conf(oddNumbers()...)
	sorted := slices.Sorted(slices.Values(oddNumbers()))
	expectGather(t, c, "x", by("x", oddNumbers()...), by("x", sorted...))
	expectGather(t, conf(first(10)...), "x", by("x", oddNumbers()...), nil)
	expectProves(t, c, "x", by("x", sorted...), false)
	for _, id := range oddNumbers() {
		expectGather(t, c, "x", by("x", id), by("x", id))
		expectGather(t, conf(0, 1, 2, 3), "x", by("x", 0, id, 3), by("x", 0, 3))
	}
}

// P9.1, W0: long lists.

func TestOneSignatureManyTimes(t *testing.T) {
	c := conf(1, 2, 3, 4)
	sigs := slices.Repeat(by("x", 2), 300000)
	expectProves(t, c, "x", sigs, false)
	expectGather(t, c, "x", sigs, by("x", 2))
	sigs = append(slices.Repeat(by("x", 4, 1, 3, 9), 100000), by("x", 2)...)
	expectProves(t, c, "x", sigs, false)
	expectGather(t, c, "x", sigs, by("x", 1, 2, 3, 4))
}

// Many members and many signatures at once: who holds each against each takes minutes.
func TestManyMembersAndManySignatures(t *testing.T) {
	const many = 300000
	c := conf(falling(many)...)
	sigs := by("x", falling(many)...)
	want := slices.Clone(sigs)
	slices.Reverse(want)
	expectGather(t, c, "x", sigs, want)
	if terms.Proves(c, "x", sigs) || terms.Proves(c, "x", want) {
		t.Error("a proof for very many")
	}
}

// R4: what is handed in stays as it was, and what is answered is new memory.

func TestWhatIsHandedInStays(t *testing.T) {
	members := []int{9, 3, 3, 7, 1}
	sigs := append(by("x", 7, 9, 3, 7, 4), by("y", 1)...)
	c := conf(members...)
	keptMembers, keptSigs := slices.Clone(members), slices.Clone(sigs)
	terms.Proves(c, "x", sigs)
	terms.Count(c, "x", sigs)
	terms.Gather(c, "x", sigs)
	right := conf(1, 2, 3, 4)
	terms.Proves(right, "x", sigs)
	terms.Gather(right, "x", sigs)
	if !slices.Equal(members, keptMembers) || !slices.Equal(sigs, keptSigs) || !slices.Equal(right.Members, []int{1, 2, 3, 4}) {
		t.Error(members, sigs, right)
	}
}

func TestWhatIsAnsweredIsNewMemory(t *testing.T) {
	c := conf(1, 2, 3, 4)
	sigs := by("x", 1, 2, 3, 4)
	one, two := terms.Gather(c, "x", sigs), terms.Gather(c, "x", sigs)
	for i := range one {
		one[i] = api.Sig{By: -7, Text: "spoilt"}
	}
	_ = append(one[:0:cap(one)], slices.Repeat(by("spoilt", -7), cap(one))...)
	if !slices.Equal(sigs, by("x", 1, 2, 3, 4)) || !slices.Equal(two, by("x", 1, 2, 3, 4)) || !slices.Equal(c.Members, []int{1, 2, 3, 4}) {
		t.Error(sigs, two, c)
	}
	for i := range sigs {
		sigs[i] = api.Sig{By: -7, Text: "spoilt"}
		c.Members[i] = -7
	}
	if !slices.Equal(two, by("x", 1, 2, 3, 4)) {
		t.Error(two)
	}
}

// Room behind a list that is handed in is the caller's too.
func TestRoomBehindListsStays(t *testing.T) {
	sigs := by("x", 4, 3, 2, 1, 9, 9)
	members := []int{4, 2, 1, 3, 8, 8}
	terms.Gather(conf(members[:4]...), "x", sigs[:4])
	terms.Gather(api.Conf{Members: members[:4]}, "x", sigs[:4])
	if !slices.Equal(sigs, by("x", 4, 3, 2, 1, 9, 9)) || !slices.Equal(members, []int{4, 2, 1, 3, 8, 8}) {
		t.Error(sigs, members)
	}
}

// P9.2: Gather's answer is a proof just if Count is a quorum at least.

func TestGatherIsAProofOfAQuorum(t *testing.T) {
	for _, members := range councils() {
		c := conf(members...)
		backwards := slices.Clone(members)
		slices.Reverse(backwards)
		for set := range 1 << len(members) {
			signers := chosen(backwards, set)
			sigs := append(by("x", signers...), by("y", members...)...)
			sigs = append(append(sigs, by("x", signers...)...), by("x", oddNumbers()...)...)
			count := terms.Count(c, "x", sigs)
			enough := count >= quorums()[len(members)]
			if got := terms.Proves(c, "x", terms.Gather(c, "x", sigs)); got != enough || count != len(signers) {
				t.Fatalf("of %v signed %v: counted %d, a proof: %v", members, signers, count, got)
			}
		}
	}
}

// Lists in rows of their own, by whomever, of whatever: numbers from a rule take the place of chance.
func TestGatherIsAProofOfAQuorumInLongLists(t *testing.T) {
	seed := uint32(9)
	next := func(n int) int {
		seed = seed*1664525 + 1013904223
		return int(seed>>8) % n
	}
	texts := []string{"x", "y", ""}
	for range 20000 {
		members := councils()[next(len(councils()))]
		c := api.Conf{Epoch: next(61), Members: members}
		var sigs []api.Sig
		for range next(24) {
			sigs = append(sigs, api.Sig{By: next(18) - 1, Text: texts[next(3)]})
		}
		for _, text := range texts {
			expectAsModel(t, c, text, sigs)
			gathered := terms.Gather(c, text, sigs)
			expectProves(t, c, text, gathered, terms.Count(c, text, sigs) >= quorums()[len(members)])
			expectGather(t, c, text, gathered, gathered)
		}
	}
}

// P9.2: two proofs have a weak quorum of signers in common.

func TestTwoProofsShareAWeakQuorum(t *testing.T) {
	for _, members := range councils() {
		c := conf(members...)
		var proofs []uint
		for set := range 1 << len(members) {
			if terms.Proves(c, "x", by("x", chosen(members, set)...)) {
				proofs = append(proofs, uint(set))
			}
		}
		fewest := len(members)
		for _, one := range proofs {
			for _, other := range proofs {
				fewest = min(fewest, bits.OnesCount(one&other))
			}
		}
		if len(proofs) == 0 || fewest < weakQuorums()[len(members)] {
			t.Errorf("of %v: %d proofs, two of them have %d in common", members, len(proofs), fewest)
		}
	}
}

// The proofs may be of unlike texts: the signers are what they have in common.
func TestTwoProofsOfUnlikeTexts(t *testing.T) {
	c := conf(1, 2, 3, 4)
	one, other := by("x", 1, 2, 3), by("y", 2, 3, 4)
	expectProves(t, c, "x", one, true)
	expectProves(t, c, "y", other, true)
	expectProves(t, c, "x", other, false)
	expectProves(t, c, "y", one, false)
	expectProves(t, c, "x", append(slices.Clone(one[:2]), other[2]), false)
}
