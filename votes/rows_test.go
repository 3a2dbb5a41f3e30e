package votes_test

import (
	"math/rand"
	"slices"
	"testing"

	"witan/api"
)

// P15.1, P15.2: rows of calls by chance, from fixed seeds, held against the model step by step.

// chance rolls votes for a tally of this configuration.
type chance struct {
	*rand.Rand
	conf api.Conf
}

// oneOf answers one of the list.
func oneOf[T any](c chance, list []T) T { return list[c.Intn(len(list))] }

// seldom tells something that is so once of n times.
func (c chance) seldom(n int) bool { return c.Intn(n) == 0 }

// text answers one of few, so that members agree often enough.
func (c chance) text() string {
	switch {
	case c.seldom(20):
		return ""
	case c.seldom(12):
		return oneOf(c, states()[:18])
	}
	return "st"
}

// some answers n numbers by chance, mostly such as members have.
func (c chance) some(n int) []int {
	list := c.Perm(ids)[:n]
	if !c.seldom(3) {
		slices.Sort(list)
	}
	if c.seldom(4) {
		list[c.Intn(n)] = c.Intn(20) - 2
	}
	return list
}

func (c chance) next() []int {
	switch {
	case c.seldom(15):
		return c.some(1 + c.Intn(12))
	case c.seldom(12):
		return oneOf(c, nexts())
	}
	return c.conf.Members
}

func (c chance) from() int {
	if c.seldom(20) {
		return oneOf(c, strangers(c.conf.Members))
	}
	return oneOf(c, c.conf.Members)
}

// signatures answers the own ones mostly, else such as are changed in one thing.
func (c chance) signatures(v vote) []api.Sig {
	epoch := c.conf.Epoch
	good := own(v.from, epoch, v.text, v.next)
	switch c.Intn(40) {
	case 0:
		return own(c.from(), epoch, v.text, v.next)
	case 1:
		return own(v.from, epoch+1-2*c.Intn(2), v.text, v.next)
	case 2:
		return own(v.from, epoch, c.text(), v.next)
	case 3:
		return own(v.from, epoch, v.text, c.next())
	case 4:
		return good[c.Intn(2):][:c.Intn(2)]
	case 5:
		return append(good, oneOf(c, good))
	case 6:
		return backwardSigs(good)
	case 7:
		good[c.Intn(2)].By = c.from()
	}
	return good
}

// step does one call, and asks how both stand.
func (c chance) step(p *pair) {
	p.t.Helper()
	v := vote{from: c.from(), text: c.text(), next: c.next()}
	p.tell(v, c.signatures(v))
	p.stands()
}

func TestRowsByChance(t *testing.T) {
	settled, open, unlike := 0, 0, 0
	for seed, conf := range someConfs() {
		for again := range 20 {
			c := chance{Rand: rand.New(rand.NewSource(int64(20*seed + again))), conf: conf}
			p := pairOf(t, conf.Epoch, conf.Members...)
			for range 60 {
				c.step(p)
			}
			s, ok := p.m.settled()
			if !ok {
				open++
			} else if settled++; len(s.Sigs) < len(p.m.votes) {
				unlike++
			}
		}
	}
	if settled < 200 || open < 50 || unlike < 100 {
		t.Error("too few settled, too few open, too few with other votes beside:", settled, open, unlike)
	}
}

// Behind the same calls two tallies answer the same: nothing hangs on anything else.
func TestTheSameRowTwice(t *testing.T) {
	for seed := range int64(20) {
		var ends []*pair
		for range 2 {
			c := chance{Rand: rand.New(rand.NewSource(seed)), conf: conf(12, spread(6)...)}
			p := pairOf(t, 12, spread(6)...)
			for range 60 {
				c.step(p)
			}
			ends = append(ends, p)
		}
		ends[0].m, ends[1].m = ends[1].m, ends[0].m
		ends[0].stands()
		ends[1].stands()
	}
}
