package votes_test

import (
	"fmt"
	"math"
	"slices"
	"testing"

	"witan/api"
	"witan/votes"
)

// P15.1: what each call answers.

// The chapter's examples.
func TestExamples(t *testing.T) {
	p := pairOf(t, 0, 0, 1, 2, 3)
	for i, id := range []int{2, 0, 3} {
		p.expectNothingSettled()
		p.expectCount(i)
		p.vote(id, "st", []int{0, 1, 2, 3}, api.OK)
	}
	p.expectSettled("st", []int{0, 1, 2, 3}, 0, 2, 3)
	p.expectCount(3)

	p = pairOf(t, 0, 0, 1, 2, 3)
	p.vote(0, "st", []int{0, 1, 2, 3}, api.OK)
	p.vote(1, "st", []int{0, 1, 2, 3}, api.OK)
	p.vote(2, "other", []int{0, 1, 2, 3}, api.OK)
	p.vote(3, "st", []int{0, 1, 2, 3, 4}, api.OK)
	p.expectNothingSettled()
	p.expectCount(4)
}

// What is settled, byte by byte.
func TestSettledWrittenOut(t *testing.T) {
	y := tallyOf(t, conf(2, 0, 3, 7, 15))
	state, after := "S\x00\x00\x00\x0cst", "C\x00\x03\x05\x00\x01\x02\x03\x09"
	for _, id := range []int{15, 3, 7} {
		if e := y.Add(id, "st", []int{0, 1, 2, 3, 9}, []api.Sig{{By: id, Text: state}, {By: id, Text: after}}); e != api.OK {
			t.Fatal(id, e)
		}
	}
	want := votes.Settled{
		Text: "st",
		Sigs: []api.Sig{{By: 3, Text: state}, {By: 7, Text: state}, {By: 15, Text: state}},
		Link: api.Link{
			Conf: api.Conf{Epoch: 3, Members: []int{0, 1, 2, 3, 9}},
			Sigs: []api.Sig{{By: 3, Text: after}, {By: 7, Text: after}, {By: 15, Text: after}},
		},
	}
	if got, ok := y.Settled(); !ok || !isSameSettled(got, want) {
		t.Errorf("%v %v, not %v", got, ok, want)
	}
}

func TestNewOfRightConfigurations(t *testing.T) {
	for epoch := range lastEpoch + 1 {
		for n := least; n <= most; n++ {
			p := pairOf(t, epoch, spread(n)...)
			p.expectCount(0)
			p.expectNothingSettled()
		}
	}
}

func TestNewOfWrongConfigurations(t *testing.T) {
	for name, c := range wrongConfs() {
		if y, e := votes.New(c); y != nil || e != api.ErrArg {
			t.Errorf("%s: %v %d", name, y != nil, e)
		}
	}
}

// In each epoch but the last one votes are taken and settle; the signatures are of its last slot and of the epoch behind it.
func TestEachEpoch(t *testing.T) {
	for epoch := range lastEpoch {
		n := least + epoch%7
		p := pairOf(t, epoch, lastOf(n)...)
		for _, id := range lastOf(n) {
			p.vote(id, "st", spread(n), api.OK)
		}
		p.expectSettled("st", spread(n), lastOf(n)...)
		p.expectCount(n)
	}
}

// Of the last epoch there is a tally, but no vote: no epoch comes behind it.
func TestTheLastEpoch(t *testing.T) {
	for n := least; n <= most; n++ {
		p := pairOf(t, lastEpoch, spread(n)...)
		for _, id := range append(strangers(spread(n)), spread(n)...) {
			p.vote(id, "st", spread(n), api.ErrArg)
			p.voteWith(id, "st", spread(n), nil, api.ErrArg)
		}
		p.expectCount(0)
		p.expectNothingSettled()
	}
}

// Whatever bytes but none, and whatever right members: they are voted for, and settled as they are.
func TestEachStateAndNextMembers(t *testing.T) {
	for i, text := range states() {
		for k, next := range nexts() {
			p := pairOf(t, i, 2, 5, 9, 11)
			for _, id := range []int{11, 5, 2} {
				if e := p.tell(vote{id, text, next}, own(id, i, text, next)); e != api.OK {
					t.Fatal(i, k, e)
				}
			}
			p.stands()
			p.expectSettled(text, next, 2, 5, 11)
		}
	}
}

// The next members may be those of now, or have none in common with them.
func TestNextMembersThatStayAndGo(t *testing.T) {
	for _, next := range [][]int{firstOf(4), lastOf(4), firstOf(10), lastOf(10)} {
		p := pairOf(t, 5, firstOf(4)...)
		for _, id := range firstOf(4) {
			p.vote(id, "st", next, api.OK)
		}
		p.expectSettled("st", next, 0, 1, 2, 3)
	}
}

func TestVotesForWrongNextMembers(t *testing.T) {
	for name, next := range wrongMembers() {
		t.Run(name, func(t *testing.T) {
			p := pairOf(t, 0, 0, 1, 2, 3)
			for _, id := range []int{0, 1, 2, 3, 4, -1} {
				p.vote(id, "st", next, api.ErrArg)
				p.voteWith(id, "st", next, nil, api.ErrArg)
			}
			p.expectCount(0)
			p.vote(0, "st", []int{0, 1, 2, 3}, api.OK)
			p.vote(0, "st", next, api.ErrArg)
		})
	}
}

func TestVotesForNoBytes(t *testing.T) {
	p := pairOf(t, 0, 0, 1, 2, 3)
	for _, next := range nexts() {
		for _, id := range []int{0, 1, 2, 3, 4, -1} {
			p.vote(id, "", next, api.ErrArg)
		}
	}
	p.expectCount(0)
	p.expectNothingSettled()
}

func TestStrangers(t *testing.T) {
	for _, c := range someConfs() {
		p := pairOf(t, c.Epoch, c.Members...)
		for _, id := range strangers(c.Members) {
			p.vote(id, "st", firstOf(5), api.ErrAbsent)
		}
		p.expectCount(0)
		for _, id := range c.Members {
			p.vote(id, "st", firstOf(5), api.OK)
		}
		p.expectSettled("st", firstOf(5), c.Members...)
		for _, id := range strangers(c.Members) {
			p.vote(id, "st", firstOf(5), api.ErrAbsent)
		}
		p.expectCount(len(c.Members))
	}
}

// Who joins votes behind the turn only, and who leaves still votes for it.
func TestWhoComesAndWhoGoes(t *testing.T) {
	next := []int{0, 1, 2, 4, 5}
	p := pairOf(t, 7, 0, 1, 2, 3)
	p.vote(4, "st", next, api.ErrAbsent)
	p.vote(5, "st", next, api.ErrAbsent)
	for _, id := range []int{3, 0, 1} {
		p.vote(id, "st", next, api.OK)
	}
	p.expectSettled("st", next, 0, 1, 3)
}

// Who has voted is refused, with the same vote and with others.
func TestTwice(t *testing.T) {
	next := []int{0, 1, 2, 3, 9}
	for _, first := range states() {
		p := pairOf(t, 1, 0, 1, 2, 3)
		p.vote(1, first, next, api.OK)
		for _, second := range states() {
			p.vote(1, second, next, api.ErrSame)
		}
		for _, other := range nexts() {
			p.vote(1, first, other, api.ErrSame)
		}
		p.expectCount(1)
	}
}

// By voting twice nobody settles anything.
func TestTwiceIsNoQuorum(t *testing.T) {
	p := pairOf(t, 0, 0, 1, 2, 3)
	p.vote(0, "st", firstOf(4), api.OK)
	p.vote(1, "st", firstOf(4), api.OK)
	for range 20 {
		p.vote(0, "st", firstOf(4), api.ErrSame)
		p.vote(1, "st", firstOf(4), api.ErrSame)
	}
	p.expectCount(2)
	p.expectNothingSettled()
	p.vote(3, "other", firstOf(4), api.OK)
	p.vote(3, "st", firstOf(4), api.ErrSame)
	p.expectNothingSettled()
}

// wrongSigs answers lists that aren't the two signatures of the member 1's vote for "st" and 0, 1, 2, 3, 9 in the epoch 2.
func wrongSigs() [][]api.Sig {
	next := []int{0, 1, 2, 3, 9}
	good := own(1, 2, "st", next)
	state, after := good[0], good[1]
	lists := [][]api.Sig{
		nil, {}, {state}, {after}, {{}}, {{}, {}}, {state, {}}, {{}, after},
		{after, state}, {state, state}, {after, after},
		{state, after, state}, {state, after, after}, {state, after, {}}, {{}, state, after}, {state, {}, after}, {after, state, after}, {state, state, after},
		slices.Repeat(good, 2), slices.Repeat(good, 50000),
	}
	for _, other := range [][]api.Sig{
		own(0, 2, "st", next), own(2, 2, "st", next), own(9, 2, "st", next), own(-1, 2, "st", next), own(17, 2, "st", next), own(101, 2, "st", next), own(math.MinInt, 2, "st", next), own(math.MaxInt, 2, "st", next),
		own(1, 0, "st", next), own(1, 1, "st", next), own(1, 3, "st", next), own(1, 59, "st", next), own(1, 60, "st", next),
		own(1, 2, "s", []int{0, 1, 2, 3}), own(1, 2, "st\x00", []int{0, 1, 2, 3, 8}), own(1, 2, "", nil), own(1, 2, "St", []int{0, 1, 2, 3, 9, 10}), own(1, 2, "ts", []int{1, 2, 3, 9}),
		{{By: 1, Text: "st"}, {By: 1, Text: "\x00\x01\x02\x03\x09"}}, {{By: 1}, {By: 1}}, {{Text: state.Text}, {Text: after.Text}},
		{{By: 1, Text: "S\x00\x00\x00\x0bst"}, {By: 1, Text: "C\x00\x02\x05\x00\x01\x02\x03\x09"}}, // the slot ahead, and the epoch of now
		{{By: 1, Text: "S\x00\x00\x00\x0dst"}, {By: 1, Text: "P" + after.Text[1:]}},
		{{By: 1, Text: "S\x00\x00\x00\x08st"}, {By: 1, Text: "C\x00\x03\x04\x00\x01\x02\x03"}},
	} {
		lists = append(lists, other, []api.Sig{state, other[1]}, []api.Sig{other[0], after})
	}
	for k, s := range good {
		for i := range s.Text {
			bytes := []byte(s.Text)
			bytes[i] ^= 1
			list := slices.Clone(good)
			list[k].Text = string(bytes)
			lists = append(lists, list)
		}
	}
	return lists
}

func TestWrongSignatures(t *testing.T) {
	next := []int{0, 1, 2, 3, 9}
	p := pairOf(t, 2, 0, 1, 2, 3)
	p.vote(0, "st", next, api.OK)
	p.vote(2, "st", next, api.OK)
	for _, sigs := range wrongSigs() {
		p.voteWith(1, "st", next, sigs, api.ErrSig)
	}
	p.expectCount(2)
	p.expectNothingSettled()
	p.vote(1, "st", next, api.OK)
	p.expectSettled("st", next, 0, 1, 2)
	for _, sigs := range wrongSigs() {
		p.voteWith(1, "st", next, sigs, api.ErrSig) // ahead of ErrSame
	}
	p.expectCount(3)
}

// A vote's signatures are of what it is for: those of any other state, members, epoch or member are wrong.
func TestSignaturesOfOtherVotes(t *testing.T) {
	type signed struct {
		by, epoch int
		text      string
		next      int
	}
	all := []signed{{0, 1, "a", 0}, {3, 1, "a", 0}, {0, 0, "a", 0}, {0, 2, "a", 0}, {0, 1, "b", 0}, {0, 1, "a\x00", 0}, {0, 1, "a", 1}, {0, 1, "a", 5}, {0, 1, "a", 9}}
	for _, a := range all {
		for _, b := range all {
			t.Run(fmt.Sprint(a, b), func(t *testing.T) {
				p := pairOf(t, a.epoch, 0, 1, 2, 3)
				want := api.ErrSig
				if a == b {
					want = api.OK
				}
				p.voteWith(a.by, a.text, nexts()[a.next], own(b.by, b.epoch, b.text, nexts()[b.next]), want)
			})
		}
	}
}

// R1: the first error is told. Each call is wrong in the way named, and in all ways named behind it.
func TestWhichErrorIsTold(t *testing.T) {
	next := []int{0, 1, 2, 3, 9}
	p := pairOf(t, 1, 0, 1, 2, 3)
	p.vote(0, "st", next, api.OK)
	for _, id := range []int{0, 1, 9, -1, 101, math.MinInt} {
		for _, sigs := range [][]api.Sig{nil, own(id, 1, "st", next), own(0, 1, "", next), own(id, 2, "st", nil)} {
			p.voteWith(id, "", next, sigs, api.ErrArg)
			p.voteWith(id, "st", nil, sigs, api.ErrArg)
			p.voteWith(id, "st", []int{0, 1, 2, 16}, sigs, api.ErrArg)
			p.voteWith(id, "", nil, sigs, api.ErrArg)
		}
	}
	for _, id := range []int{9, -1, 101, 4, 15, math.MinInt} {
		for _, sigs := range [][]api.Sig{nil, own(id, 1, "st", next), own(0, 1, "st", next), own(id, 2, "st", next)} {
			p.voteWith(id, "st", next, sigs, api.ErrAbsent)
			p.voteWith(id, "other", next, sigs, api.ErrAbsent)
		}
	}
	for _, sigs := range [][]api.Sig{nil, own(1, 1, "st", next), own(0, 2, "st", next), own(0, 1, "st", next)[:1]} {
		p.voteWith(0, "st", next, sigs, api.ErrSig)
		p.voteWith(0, "other", next, sigs, api.ErrSig)
	}
	p.voteWith(0, "other", next, own(0, 1, "st", next), api.ErrSig)
	p.vote(0, "st", next, api.ErrSame)
	p.vote(0, "other", next, api.ErrSame)
	p.vote(0, "st", []int{0, 1, 2, 3}, api.ErrSame)
	p.expectCount(1)
}

// R7: a tally that is nil. W0: and one that New didn't make.
func TestNilAndZeroTallies(t *testing.T) {
	var none *votes.Tally
	for _, y := range []*votes.Tally{none, {}} {
		for range 2 {
			for _, id := range []int{0, 1, 2, 3, -1, 15, 16, math.MinInt, math.MaxInt} {
				for _, text := range []string{"", "st"} {
					for _, next := range [][]int{nil, {0, 1, 2, 3}, {0}} {
						for _, sigs := range [][]api.Sig{nil, own(id, 0, text, next)} {
							if e := y.Add(id, text, next, sigs); e != api.ErrArg {
								t.Errorf("%d %q %v: %d", id, text, next, e)
							}
						}
					}
				}
			}
			if got, ok := y.Settled(); ok || !isSameSettled(got, votes.Settled{}) || y.Count() != 0 {
				t.Error(got, ok, y.Count())
			}
		}
	}
}
