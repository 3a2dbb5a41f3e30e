package slots_test

import (
	"math/rand"
	"testing"

	"witan/api"
)

// P14.1, P14.2, P14.3: rows of calls by chance, from fixed seeds, held against the model step by step.

// chance rolls calls of a log of these members.
type chance struct {
	*rand.Rand
	members []int
	epoch   int
}

// oneOf answers one of the list.
func oneOf[T any](c chance, list []T) T { return list[c.Intn(len(list))] }

// seldom tells something that is so once of n times.
func (c chance) seldom(n int) bool { return c.Intn(n) == 0 }

// request answers one of few, so that members agree often enough; NaNs of unlike bits are among them.
func (c chance) request(slot int) api.Request {
	switch {
	case c.seldom(40):
		return oneOf(c, neither())
	case c.seldom(12):
		return oneOf(c, unlike())
	case c.seldom(10):
		return oneOf(c, []api.Request{put("k", 0), put("k", minusNought), null()})
	}
	return []api.Request{put("k", oneOf(c, nans())), null(), put("k", minusNought), get("k")}[slot&3]
}

func (c chance) slot() int {
	switch {
	case c.seldom(40):
		return oneOf(c, farSlots())
	case c.seldom(20):
		return 4*c.epoch + 5*c.Intn(2)
	}
	return 4*c.epoch + 1 + c.Intn(4)
}

func (c chance) from() int {
	if c.seldom(30) {
		return oneOf(c, strangers(c.members))
	}
	return oneOf(c, c.members)
}

// signature answers the own one mostly, else one that is changed in one thing.
func (c chance) signature(w word, view int) api.Sig {
	switch c.Intn(50) {
	case 0:
		return sign(w.from, c.epoch, view, w.slot, c.request(w.slot))
	case 1:
		return sign(c.from(), c.epoch, view, w.slot, w.req)
	case 2:
		return sign(w.from, c.epoch+1, view, w.slot, w.req)
	case 3:
		return sign(w.from, c.epoch, view+1-2*c.Intn(2), w.slot, w.req)
	case 4:
		return sign(w.from, c.epoch, view, c.slot(), w.req)
	case 5:
		return api.Sig{By: w.from, Text: "x"}
	}
	return sign(w.from, c.epoch, view, w.slot, w.req)
}

// step does one call, and asks how both stand.
func (c chance) step(p *pair) {
	p.t.Helper()
	if c.seldom(60) {
		view := p.m.view + c.Intn(3)
		if c.seldom(5) {
			view = c.Intn(20) - 2
		}
		if got, want := p.l.Enter(view), p.m.enter(view); got != want {
			p.t.Fatalf("Enter(%d): %d, not %d", view, got, want)
		}
		p.stands()
		return
	}
	w := word{kind: oneOf(c, []int{proposes, prepares, prepares, prepares, commits, commits, commits}), from: c.from(), slot: c.slot()}
	w.req = c.request(w.slot)
	p.tell(w, c.signature(w, p.m.view))
	p.stands()
}

func TestRowsByChance(t *testing.T) {
	certs, done, later := 0, 0, 0
	for seed, conf := range someConfs() {
		for again := range 2 {
			c := chance{Rand: rand.New(rand.NewSource(int64(2*seed + again))), members: conf.Members, epoch: conf.Epoch}
			p := pairOf(t, conf.Epoch, conf.Members...)
			for range 500 {
				c.step(p)
			}
			certs += len(p.m.certs)
			done += len(p.m.done)
			later += len(p.m.certs) - len(p.m.last())
		}
	}
	if certs < 200 || done < 100 || later < 100 {
		t.Error("too few certificates, too little committed, too few in later views:", certs, done, later)
	}
}

// Behind the same calls two logs answer the same: nothing hangs on anything else.
func TestTheSameRowTwice(t *testing.T) {
	for seed := range int64(5) {
		var ends []*pair
		for range 2 {
			c := chance{Rand: rand.New(rand.NewSource(seed)), members: spread(6), epoch: 12}
			p := pairOf(t, 12, spread(6)...)
			for range 300 {
				c.step(p)
			}
			ends = append(ends, p)
		}
		ends[0].m, ends[1].m = ends[1].m, ends[0].m
		ends[0].stands()
		ends[1].stands()
	}
}
