package change_test

import (
	"fmt"
	"math/bits"
	"math/rand"
	"slices"
	"testing"

	"witan/api"
	"witan/change"
	"witan/slots"
	"witan/terms"
)

// P16.2: what a quorum committed is picked again out of any quorum of right changes, whatever at most the faults tell.

// sets answers the sets of n that have least to most elements, as bits.
func sets(n, least, most int) []int {
	var list []int
	for set := range 1 << n {
		if k := bits.OnesCount(uint(set)); k >= least && k <= most {
			list = append(list, set)
		}
	}
	return list
}

// told answers the changes of the view 9 by which a slot's committed request may be in danger, of a member: one of who committed it in the view 4, one of who prepared it again in the view 6, one of who prepared another one in the view 3 and missed what came then, and one of who tells nothing.
func told(c api.Conf, id int) []api.Change {
	q, slot := quorumOf(c.Members), 4*c.Epoch+2
	return []api.Change{
		changeOf(c.Epoch, id, 9, certOf(c.Epoch, 4, slot, join(1), q...)),
		changeOf(c.Epoch, id, 9, certOf(c.Epoch, 6, slot, join(1), c.Members...)),
		changeOf(c.Epoch, id, 9, certOf(c.Epoch, 3, slot, join(2), q...), certOf(c.Epoch, 8, slot+1, join(3), q...)),
		changeOf(c.Epoch, id, 9),
	}
}

// Each quorum that committed, each set of bad ones among all members, and each quorum whose changes are picked from (of nine and ten members some of these, by chance): those who committed it and are honest tell it, all others whatever there is that is right.
func TestEachQuorumThatCommitted(t *testing.T) {
	for n := least; n <= most; n++ {
		c := conf(n, spread(n)...)
		var all [][]api.Change
		for _, id := range c.Members {
			all = append(all, told(c, id))
		}
		r := rand.New(rand.NewSource(int64(n)))
		quorums, bad := sets(n, quorums()[n], n), sets(n, 0, faults()[n])
		rows := len(quorums) * len(quorums) * len(bad)
		for row := 0; row < rows; row += 1 + r.Intn(1+rows/60000) {
			committed, lying, asked := quorums[row%len(quorums)], bad[row/len(quorums)%len(bad)], quorums[row/len(quorums)/len(bad)]
			var l []api.Change
			for i := range n {
				if asked>>i&1 == 0 {
					continue
				}
				kind := r.Intn(4)
				if committed>>i&1 == 1 && lying>>i&1 == 0 {
					kind = r.Intn(2)
				}
				l = append(l, all[i][kind])
			}
			got, e := change.Pick(c, 9, l)
			if e != api.OK || len(got) < 2 || !isSameRequest(got[1], join(1)) {
				t.Fatalf("%d members, %b committed, %b bad, %b asked: %s %d", n, committed, lying, asked, short(got), e)
			}
		}
	}
}

// town is an epoch whose views come and go by chance. The bad members hand each honest one what they like: proposals, prepares, commits, certificates, and the changes by which a view begins.
type town struct {
	*rand.Rand
	t         *testing.T
	conf      api.Conf
	view      int
	bad       []int
	logs      map[int]*slots.Log // of the honest members
	book      *terms.Book        // what honest members signed
	signed    []api.Cert         // what honest members prepared, each once, without the signatures
	committed map[int]api.Request
	counts    counts
}

// counts tells how much happened, so that a test in which nothing does is seen.
type counts struct{ committed, again, forged, unlike int }

func townOf(t *testing.T, seed int64, n, epoch int) *town {
	w := &town{Rand: rand.New(rand.NewSource(seed)), t: t, conf: conf(epoch, spread(n)...), logs: map[int]*slots.Log{}, book: terms.New(), committed: map[int]api.Request{}}
	order := w.Perm(n)
	for i, k := range order {
		id := w.conf.Members[k]
		if i < faults()[n] {
			w.bad = append(w.bad, id)
			continue
		}
		w.logs[id], _ = slots.New(w.conf)
	}
	slices.Sort(w.bad)
	return w
}

// honest answers the honest members, rising.
func (w *town) honest() []int {
	var list []int
	for _, id := range w.conf.Members {
		if w.logs[id] != nil {
			list = append(list, id)
		}
	}
	return list
}

// propose hands each honest member its view's proposals: first what its changes pick, then a request, sometimes one of two, or none. Each prepares what it was handed.
func (w *town) propose(again map[int][]api.Request) {
	choices := 1 + w.Intn(4)/3
	for _, id := range w.honest() {
		for i, slot := range slotsOf(w.conf.Epoch) {
			r := request(1+w.Intn(choices), 1+w.view, api.OpPut, "k", float64(slot), 0)
			if i < len(again[id]) {
				r = again[id][i]
			} else if w.Intn(12) == 0 {
				continue
			}
			w.logs[id].Propose(slot, r)
			s := api.Sig{By: id, Text: preparedText(w.conf.Epoch, w.view, slot, r)}
			w.logs[id].Prepare(id, slot, r, s)
			w.note(s, api.Cert{View: w.view, Slot: slot, Req: r})
		}
	}
}

// note keeps what an honest member signed.
func (w *town) note(s api.Sig, what api.Cert) {
	w.book.Note(s)
	if !slices.ContainsFunc(w.signed, func(c api.Cert) bool {
		return c.View == what.View && c.Slot == what.Slot && isSameRequest(c.Req, what.Req)
	}) {
		w.signed = append(w.signed, what)
	}
}

// deliver hands on what the honest ones prepared, and of the bad ones to each honest member what agrees with its proposal. In most views so much is lost that hardly anything is prepared but with one of them: what it knows then is easily left out by those who come to know more later.
func (w *town) deliver() {
	hearing := w.Perm(len(w.honest()))
	if w.Intn(5) > 1 {
		hearing = hearing[:1]
	}
	for i, to := range w.honest() {
		arrives := 2
		if slices.Contains(hearing, i) {
			arrives = 15
		}
		for _, from := range w.conf.Members {
			for _, slot := range slotsOf(w.conf.Epoch) {
				of := to
				if w.logs[from] != nil {
					of = from
				}
				if r, ok := w.logs[of].Proposed(slot); ok && w.Intn(16) < arrives {
					w.logs[to].Prepare(from, slot, r, api.Sig{By: from, Text: preparedText(w.conf.Epoch, w.view, slot, r)})
				}
			}
		}
	}
}

// commit lets honest members commit what is prepared with them. With those of the bad ones who say so, too, a quorum may have: then it is committed from now on, and nothing else may be.
func (w *town) commit() {
	for _, slot := range slotsOf(w.conf.Epoch) {
		count := map[string]int{}
		for _, id := range w.honest() {
			r, _ := w.logs[id].Proposed(slot)
			if !w.logs[id].Prepared(slot) || w.Intn(4) == 0 {
				continue
			}
			text := requestText(r)
			if count[text]++; count[text]+len(w.bad) < quorums()[len(w.conf.Members)] {
				continue
			}
			was, known := w.committed[slot]
			if known && !isSameRequest(was, r) {
				w.t.Fatalf("the slot %d, the view %d: %s is committed, and %s was", slot, w.view, short(r), short(was))
			}
			if !known {
				w.counts.committed++
			}
			w.committed[slot] = r
		}
	}
}

// made answers a certificate of what some honest members prepared, with all signatures that the bad ones have or can make.
func (w *town) made(what api.Cert) api.Cert {
	text := preparedText(w.conf.Epoch, what.View, what.Slot, what.Req)
	for _, s := range signatures(text, w.conf.Members...) {
		if w.book.Derivable(w.bad, []api.Sig{s}) {
			what.Sigs = append(what.Sigs, s)
		}
	}
	return what
}

// known answers what honest members prepared in the slot.
func (w *town) known(slot int) []api.Cert {
	var list []api.Cert
	for _, c := range w.signed {
		if c.Slot == slot {
			list = append(list, c)
		}
	}
	return list
}

// lie answers a change of a bad member for the view: of each slot nothing, or something that honest ones prepared, or what nobody did. What isn't right isn't told.
func (w *town) lie(id int) api.Change {
	var certs []api.Cert
	for _, slot := range slotsOf(w.conf.Epoch) {
		cert := api.Cert{View: w.Intn(w.view), Slot: slot, Req: request(7, 1+w.Intn(3), api.OpPut, "bad", 0, 0)}
		if known := w.known(slot); len(known) > 0 && w.Intn(5) > 0 {
			cert = known[w.Intn(len(known))]
		}
		x := changeOf(w.conf.Epoch, id, w.view, append(certs, w.made(cert))...)
		if e := change.Right(w.conf, x); e == api.OK {
			certs = x.Certs
		} else if e == api.ErrQuorum {
			w.counts.forged++
		}
	}
	return changeOf(w.conf.Epoch, id, w.view, certs...)
}

// gather answers a quorum of changes or more: the honest ones tell what they prepared.
func (w *town) gather() []api.Change {
	n := len(w.conf.Members)
	set := w.Perm(n)[:quorums()[n]+w.Intn(n-quorums()[n]+1)]
	var l []api.Change
	for i, id := range w.conf.Members {
		if !slices.Contains(set, i) {
			continue
		}
		if w.logs[id] == nil {
			l = append(l, w.lie(id))
			continue
		}
		l = append(l, changeOf(w.conf.Epoch, id, w.view, w.logs[id].Certs()...))
	}
	return l
}

// turn begins a later view. A primary that is bad shows each honest member another quorum of changes.
func (w *town) turn() map[int][]api.Request {
	w.view += 1 + w.Intn(2)
	for _, id := range w.honest() {
		w.logs[id].Enter(w.view)
	}
	again := map[int][]api.Request{}
	l, isBad := w.gather(), w.Intn(2) == 0
	for _, id := range w.honest() {
		if isBad {
			l = w.gather()
		}
		again[id] = w.pick(l)
	}
	return again
}

// pick picks, and asks if each request that is committed is picked.
func (w *town) pick(l []api.Change) []api.Request {
	got, e := change.Pick(w.conf, w.view, l)
	if e != api.OK {
		w.t.Fatalf("Pick: %d", e)
	}
	for i, slot := range slotsOf(w.conf.Epoch) {
		r, known := w.committed[slot]
		if !known {
			continue
		}
		if i >= len(got) || !isSameRequest(got[i], r) {
			w.t.Fatalf("the slot %d, the view %d: %s is picked, and %s is committed", slot, w.view, short(got), short(r))
		}
		w.counts.again++
		if slices.ContainsFunc(l, func(x api.Change) bool {
			return slices.ContainsFunc(x.Certs, func(c api.Cert) bool { return c.Slot == slot && !isSameRequest(c.Req, r) })
		}) {
			w.counts.unlike++
		}
	}
	return got
}

func TestTowns(t *testing.T) {
	for n := least; n <= most; n++ {
		t.Run(fmt.Sprint(n), func(t *testing.T) {
			var all counts
			for seed := range int64(700 / n) {
				w := townOf(t, 100*seed+int64(n), n, int(seed)%61)
				var again map[int][]api.Request
				for w.view < 12 {
					w.propose(again)
					w.deliver()
					w.commit()
					again = w.turn()
				}
				all.committed += w.counts.committed
				all.again += w.counts.again
				all.forged += w.counts.forged
				all.unlike += w.counts.unlike
			}
			if all.committed < 60 || all.again < 1000 || all.forged < 1000 || all.unlike < 20 {
				t.Errorf("too few: %+v", all)
			}
		})
	}
}
