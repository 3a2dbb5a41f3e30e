package change_test

import (
	"math/rand"
	"slices"
	"testing"

	"witan/api"
)

// P16.1: changes and lists of them by chance, from fixed seeds, held against the model.

// chance rolls changes for a configuration, with certificates of the first ones of its slots.
type chance struct {
	*rand.Rand
	conf  api.Conf
	slots int
}

// oneOf answers one of the list.
func oneOf[T any](c chance, list []T) T { return list[c.Intn(len(list))] }

// seldom tells something that is so once of n times.
func (c chance) seldom(n int) bool { return c.Intn(n) == 0 }

func (c chance) request() api.Request {
	switch {
	case c.seldom(60):
		return oneOf(c, neither())
	case c.seldom(8):
		return put("k", oneOf(c, nans()))
	}
	return oneOf(c, unlike())
}

// signers answers a quorum or more mostly, rising.
func (c chance) signers() []int {
	n := len(c.conf.Members)
	count := quorums()[n] + c.Intn(n-quorums()[n]+1)
	if c.seldom(30) {
		count = c.Intn(n + 1)
	}
	by := slices.Clone(c.conf.Members)
	c.Shuffle(n, func(i, k int) { by[i], by[k] = by[k], by[i] })
	by = by[:count]
	if !c.seldom(60) {
		slices.Sort(by)
	}
	if len(by) > 0 && c.seldom(60) {
		by[c.Intn(len(by))] = c.Intn(210) - 4
	}
	return by
}

// cert answers a certificate of a view below mostly.
func (c chance) cert(view, slot int) api.Cert {
	epoch, of, r := c.conf.Epoch, c.Intn(max(view, 1)), c.request()
	if c.seldom(50) {
		of = c.Intn(20) - 2
	}
	cert := certOf(epoch, of, slot, r, c.signers()...)
	switch c.Intn(150) {
	case 0:
		cert.Sigs = certOf(epoch+1, of, slot, r, c.signers()...).Sigs
	case 1:
		cert.Sigs = certOf(epoch, of+1, slot, r, c.signers()...).Sigs
	case 2:
		cert.Sigs = certOf(epoch, of, slot+1, r, c.signers()...).Sigs
	case 3:
		cert.Sigs = certOf(epoch, of, slot, c.request(), c.signers()...).Sigs
	case 4:
		cert.Slot += c.Intn(5) - 2
	case 5:
		cert.Sigs = append(cert.Sigs, oneOf(c, append(cert.Sigs, api.Sig{})))
	}
	return cert
}

// change answers a change that is right mostly.
func (c chance) change(from, view int) api.Change {
	x := api.Change{From: from, View: view}
	for _, slot := range slotsOf(c.conf.Epoch)[:c.slots] {
		if c.seldom(2) {
			x.Certs = append(x.Certs, c.cert(view, slot))
		}
	}
	switch c.Intn(100) {
	case 0:
		x.From = c.Intn(20) - 2
	case 1:
		x.View = c.Intn(20) - 2
	case 2:
		slices.Reverse(x.Certs)
	}
	x = signed(c.conf.Epoch, x)
	switch c.Intn(150) {
	case 0:
		x.Sig.By = c.Intn(ids)
	case 1:
		x.Sig.Text = x.Sig.Text[:c.Intn(len(x.Sig.Text))]
	case 2:
		x.View = 1 + c.Intn(lastView)
	}
	return x
}

// list answers changes of a quorum or more mostly, rising.
func (c chance) list(view int) []api.Change {
	n := len(c.conf.Members)
	set := c.Perm(n)[:quorums()[n]+c.Intn(n-quorums()[n]+1)]
	if c.seldom(15) {
		set = set[:c.Intn(len(set))]
	}
	if !c.seldom(20) {
		slices.Sort(set)
	}
	var l []api.Change
	for _, i := range set {
		l = append(l, c.change(c.conf.Members[i], view))
	}
	if len(l) > 0 && c.seldom(25) {
		l = slices.Insert(l, c.Intn(len(l)), oneOf(c, l))
	}
	return l
}

func TestChangesByChance(t *testing.T) {
	texts, rights := map[api.Errno]int{}, map[api.Errno]int{}
	for seed, conf := range someConfs() {
		c := chance{rand.New(rand.NewSource(int64(seed))), conf, interval}
		for range 400 {
			x := c.change(oneOf(c, conf.Members), 1+c.Intn(lastView))
			_, e := askText(t, conf.Epoch, x)
			texts[e]++
			rights[askRight(t, conf, x)]++
		}
	}
	if texts[api.OK] < 5000 || texts[api.ErrArg] < 300 {
		t.Error("texts:", texts)
	}
	for _, e := range []api.Errno{api.ErrArg, api.ErrAbsent, api.ErrView, api.ErrQuorum, api.ErrSig} {
		if rights[e] < 30 {
			t.Error("right:", e, rights)
		}
	}
	if rights[api.OK] < 3000 {
		t.Error("right:", rights)
	}
}

func TestListsByChance(t *testing.T) {
	counts, lengths := map[api.Errno]int{}, map[int]int{}
	for seed, conf := range someConfs() {
		c := chance{Rand: rand.New(rand.NewSource(int64(seed))), conf: conf}
		for row := range 300 {
			c.slots = row % (interval + 1)
			view := 1 + c.Intn(lastView)
			l := c.list(view)
			if c.seldom(40) {
				view = c.Intn(20) - 2
			}
			got, e := askPick(t, conf, view, l)
			counts[e]++
			lengths[len(got)]++
		}
	}
	for _, e := range []api.Errno{api.ErrArg, api.ErrAbsent, api.ErrView, api.ErrQuorum, api.ErrSig, api.ErrOld} {
		if counts[e] < 30 {
			t.Error("errors:", e, counts)
		}
	}
	for n := range interval + 1 {
		if lengths[n] < 200 {
			t.Error("lengths:", n, lengths)
		}
	}
}
