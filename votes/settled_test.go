package votes_test

import (
	"math/rand"
	"slices"
	"testing"

	"witan/api"
	"witan/votes"
)

// P15.1, P15.2: when something is settled, and that it stays.

// Of each number of members each set of them votes alike, and the others for another thing: in the state alone, in the next members alone, or in both.
func TestEachSetThatVotesAlike(t *testing.T) {
	one := vote{text: "st", next: []int{0, 1, 2, 3}}
	others := []vote{{text: "ts", next: []int{0, 1, 2, 3}}, {text: "st", next: []int{0, 1, 2, 3, 4}}, {text: "ts", next: []int{0, 1, 2, 3, 4}}}
	for n := least; n <= most; n++ {
		members := spread(n)
		for set := range 1 << n {
			in, out := chosen(members, set)
			other := others[set%3]
			p := &pair{t: t, y: tallyOf(t, conf(3, members...)), m: &model{conf: conf(3, members...)}}
			for _, id := range backward(in) {
				p.tell(vote{id, one.text, one.next}, own(id, 3, one.text, one.next))
			}
			for _, id := range out {
				p.tell(vote{id, other.text, other.next}, own(id, 3, other.text, other.next))
			}
			p.stands()
			p.expectCount(n)
			switch {
			case len(in) >= quorums()[n]:
				p.expectSettled(one.text, one.next, in...)
			case len(out) >= quorums()[n]:
				p.expectSettled(other.text, other.next, out...)
			default:
				p.expectNothingSettled()
			}
		}
	}
}

// The last one of a quorum settles it, whoever that is, and whoever votes for something else between.
func TestOneFewerThanAQuorum(t *testing.T) {
	for _, c := range someConfs() {
		n, quorum := len(c.Members), quorums()[len(c.Members)]
		for first := range n {
			turned := append(slices.Clone(c.Members[first:]), c.Members[:first]...)
			p := pairOf(t, c.Epoch, c.Members...)
			between := turned[quorum:]
			for i, id := range turned[:quorum] {
				p.expectNothingSettled()
				p.vote(id, "st", c.Members, api.OK)
				if i < len(between) && i < quorum-1 {
					p.vote(between[i], []string{"st", "ts"}[i%2], []int{1, 2, 4, 8, 13}, api.OK)
				}
			}
			p.expectSettled("st", c.Members, slices.Sorted(slices.Values(turned[:quorum]))...)
		}
	}
}

// In each order of the votes of five members, of whom four vote alike or three: what comes of them doesn't hang on it.
func TestEachOrder(t *testing.T) {
	for isQuorum := range 2 {
		texts := []string{"st", "st", "st", "ts", "st"}
		if isQuorum == 0 {
			texts[1] = "tt"
		}
		for order := range orders(5) {
			p := pairOf(t, 0, 1, 4, 6, 9, 12)
			for _, k := range order {
				p.vote([]int{1, 4, 6, 9, 12}[k], texts[k], []int{0, 1, 2, 3}, api.OK)
			}
			if isQuorum == 1 {
				p.expectSettled("st", []int{0, 1, 2, 3}, 1, 4, 6, 12)
				continue
			}
			p.expectNothingSettled()
		}
	}
}

// Votes that are alike in one thing alone aren't counted together, not even by all.
func TestAlikeInOneThingAlone(t *testing.T) {
	for n := least; n <= most; n++ {
		p, q := pairOf(t, 4, firstOf(n)...), pairOf(t, 4, firstOf(n)...)
		for id := range n {
			p.vote(id, "st", nexts()[id], api.OK)
			q.vote(id, states()[id], firstOf(4), api.OK)
		}
		p.expectNothingSettled()
		q.expectNothingSettled()
		p.expectCount(n)
	}
}

// Who votes alike later signs it too, in the members' order; who votes for another thing changes nothing.
func TestWhatIsSettledGrowsAndStays(t *testing.T) {
	p := pairOf(t, 9, 0, 2, 3, 5, 8, 11, 14)
	next := []int{0, 2, 3, 5, 8, 11}
	for _, id := range []int{14, 3, 8, 5, 11} {
		p.vote(id, "st", next, api.OK)
	}
	p.expectSettled("st", next, 3, 5, 8, 11, 14)
	p.vote(2, "ts", next, api.OK)
	p.expectSettled("st", next, 3, 5, 8, 11, 14)
	p.vote(2, "st", next, api.ErrSame)
	p.expectSettled("st", next, 3, 5, 8, 11, 14)
	p.vote(0, "st", next, api.OK)
	p.expectSettled("st", next, 0, 3, 5, 8, 11, 14)
	for _, id := range firstOf(16) {
		for _, text := range []string{"st", "ts", ""} {
			p.tell(vote{id, text, next}, own(id, 9, text, next))
			p.tell(vote{id, text, next}, nil)
			p.stands()
		}
	}
	p.expectSettled("st", next, 0, 3, 5, 8, 11, 14)
	p.expectCount(7)
}

// Whatever the others vote for behind a quorum: what it settled stays.
func TestWhatIsSettledStays(t *testing.T) {
	for _, c := range someConfs() {
		quorum := quorums()[len(c.Members)]
		for set := range 1 << (len(c.Members) - quorum) {
			p := pairOf(t, c.Epoch, c.Members...)
			for _, id := range backward(c.Members[:quorum]) {
				p.vote(id, "st", c.Members, api.OK)
			}
			p.expectSettled("st", c.Members, c.Members[:quorum]...)
			alike, others := chosen(c.Members[quorum:], set)
			for _, id := range others {
				p.vote(id, "ts", c.Members, api.OK)
			}
			for _, id := range alike {
				p.vote(id, "st", c.Members, api.OK)
			}
			p.expectSettled("st", c.Members, append(slices.Clone(c.Members[:quorum]), alike...)...)
		}
	}
}

// P15.3: no two tallies settle unlike things.

// heard tells a new tally the votes of these, in an order by chance, and answers what is settled.
func heard(t *testing.T, c api.Conf, text string, next, by []int, order *rand.Rand) (votes.Settled, bool) {
	t.Helper()
	y := tallyOf(t, c)
	for _, k := range order.Perm(len(by)) {
		if e := y.Add(by[k], text, next, own(by[k], c.Epoch, text, next)); e != api.OK {
			t.Fatal(e)
		}
	}
	return y.Settled()
}

// Of two tallies that hear of unlike things not both settle, however the honest members are split, if no more than the faults vote for both. With one more it could be.
func TestNoTwoTalliesSettleUnlikeThings(t *testing.T) {
	order := rand.New(rand.NewSource(1))
	for _, c := range someConfs() {
		n := len(c.Members)
		for doubles := range faults()[n] + 1 {
			for split := range n - doubles + 1 {
				_, one := heard(t, c, "st", firstOf(4), c.Members[:doubles+split], order)
				_, two := heard(t, c, "st", firstOf(5), append(slices.Clone(c.Members[:doubles]), c.Members[doubles+split:]...), order)
				if one && two {
					t.Errorf("%v: both settle, with %d", c, doubles)
				}
				if split == n-doubles && !one {
					t.Errorf("%v: all don't settle", c)
				}
			}
		}
	}
	for _, n := range []int{4, 7, 10} {
		c, quorum := conf(0, firstOf(n)...), quorums()[n]
		_, one := heard(t, c, "st", firstOf(4), firstOf(quorum), order)
		_, two := heard(t, c, "ts", firstOf(4), append(firstOf(2*quorum-n), firstOf(n)[quorum:]...), order)
		if !one || !two || 2*quorum-n != faults()[n]+1 {
			t.Errorf("of %d with one more than the faults both could settle: %v %v", n, one, two)
		}
	}
}

// Many tallies of one configuration hear parts of what members vote, in any order, while bad ones vote for whatever they like: all that is settled is one thing.
func TestManyTalliesOfOneConfiguration(t *testing.T) {
	met := 0
	for seed := range int64(200) {
		r := rand.New(rand.NewSource(seed))
		n := least + int(seed)%7
		c := conf(int(seed)%lastEpoch, spread(n)...)
		honest := votesByChance(r, n)
		var first votes.Settled
		for range 20 {
			s, ok := hearByChance(t, r, c, honest)
			if !ok {
				continue
			}
			if first.Text != "" && (first.Text != s.Text || !slices.Equal(first.Link.Conf.Members, s.Link.Conf.Members)) {
				t.Fatalf("seed %d: %v and %v", seed, first, s)
			}
			first = s
			met++
		}
	}
	if met < 1000 {
		t.Error("too few settle:", met)
	}
}

// votesByChance answers what each honest member votes for: most for one thing.
func votesByChance(r *rand.Rand, n int) []vote {
	list := make([]vote, n)
	for k := range list {
		list[k] = vote{text: "st", next: firstOf(4)}
		if r.Intn(8) == 0 {
			list[k].text = "ts"
		}
		if r.Intn(8) == 0 {
			list[k].next = firstOf(5)
		}
	}
	return list
}

// hearByChance tells a tally most of the votes. The first members are bad, as many as may be: they vote for whatever they like, and try it twice.
func hearByChance(t *testing.T, r *rand.Rand, c api.Conf, honest []vote) (votes.Settled, bool) {
	t.Helper()
	y := tallyOf(t, c)
	for _, k := range r.Perm(len(c.Members)) {
		id, v := c.Members[k], honest[k]
		if k < faults()[len(c.Members)] {
			v = vote{text: []string{"st", "ts"}[r.Intn(2)], next: firstOf(4 + r.Intn(2))}
			y.Add(id, v.text, firstOf(4), own(id, c.Epoch, v.text, firstOf(4)))
		}
		if r.Intn(10) > 0 {
			y.Add(id, v.text, v.next, own(id, c.Epoch, v.text, v.next))
		}
	}
	return y.Settled()
}
