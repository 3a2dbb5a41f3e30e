package replica_test

import (
	"slices"
	"testing"

	"witan/api"
)

// P18.1: which messages are taken. Of each kind one that is taken, and others of which each is wrong in one thing alone; who stands otherwise doesn't take it either.

func standing4(t *testing.T, id int) func() *pair {
	return func() *pair { return pairOf(t, id, 0, 1, 2, 3) }
}

// idle answers one that gave up its view and waits for the next one to begin.
func idle(t *testing.T, id int) *pair {
	p := pairOf(t, id, 0, 1, 2, 3)
	p.changes(0, 1, p.peers(2)...)
	if id == 1 {
		p.t.Fatal("it leads the view 1")
	}
	p.stands(0, 1, false, 0, leaves-1)
	return p
}

func TestWhichRequestsAreTaken(t *testing.T) {
	q := put(1, 5, "k", 2)
	x := trialOf(t, standing4(t, 0), 101, askMsg(q))
	x.refusesStrange()
	x.refuses("of another client's node", 102, askMsg(q))
	x.refuses("of the client's number", 1, askMsg(q))
	x.refuses("of no client's node", 100, askMsg(q))
	x.refuses("of a number below 0", -101, askMsg(q))
	x.refuses("of another client", 101, askMsg(put(2, 5, "k", 2)))
	for _, s := range []api.Sig{
		{}, {By: 101}, {By: 102, Text: textOf(q)}, {By: 1, Text: textOf(q)}, {By: 0, Text: textOf(q)}, {Text: textOf(q)},
		{By: 101, Text: textOf(put(1, 5, "k", 3))}, {By: 101, Text: textOf(put(1, 6, "k", 2))}, {By: 101, Text: preparedText(0, 0, 1, q)}, {By: 101, Text: textOf(q) + "\x00"},
	} {
		x.refuses("of another signature", 101, withSigs(askMsg(q), s))
	}
	x.refuses("without a signature", 101, withSigs(askMsg(q)))
	x.refuses("with two signatures", 101, withSigs(askMsg(q), asker(q), asker(q)))
	x.refuses("the null request", 101, askMsg(null))
	x.refuses("of an epoch", 101, with(askMsg(q), func(m *api.Msg) { m.Epoch = 1 }))
	x.passes("no member", pairOf(t, 9, 0, 1, 2, 3))
}

// Who is no member doesn't answer what it knows, either.
func TestRequestsToNoMembers(t *testing.T) {
	q := put(1, 5, "k", 2)
	r := roadOf(0, 1, 2, 3).walk(q)
	for _, id := range []int{0, 9} {
		p := pairOf(t, id, 0, 1, 2, 3)
		p.handle(1, 9-id, r.state())
		got := p.handle(2, 101, askMsg(q))
		if id == 9 {
			p.expectNone(got)
			continue
		}
		p.expect(got, p.reply(1, q, api.Result{Real: 2}))
	}
}

func TestWhichProposalsAreTaken(t *testing.T) {
	q := put(1, 1, "k", 2)
	m := proposeMsg(0, 0, 3, q)
	x := trialOf(t, standing4(t, 2), 0, m)
	x.refusesStrange()
	for _, from := range []int{1, 3, 4, 9, 15, 100, 101, 102, -1, 200} {
		x.refuses("not of the primary", from, m)
	}
	x.refuses("of another epoch", 0, proposeMsg(1, 0, 7, q))
	for view := 1; view <= lastView; view++ {
		x.refuses("of another view", 0, proposeMsg(0, view, 3, q))
		x.refuses("of another view and its primary", view%4, proposeMsg(0, view, 3, q))
	}
	for _, s := range []api.Sig{
		{}, {By: 101}, {By: 102, Text: textOf(q)}, {By: 1, Text: textOf(q)}, {By: 0, Text: textOf(q)}, {By: 100, Text: textOf(q)},
		{By: 101, Text: textOf(put(1, 1, "k", 3))}, {By: 101, Text: preparedText(0, 0, 3, q)},
	} {
		x.refuses("of another signature", 0, withSigs(m, s))
	}
	x.refuses("without a signature", 0, withSigs(m))
	x.refuses("null with a signature", 0, withSigs(proposeMsg(0, 0, 3, null), api.Sig{By: 100, Text: textOf(null)}))
	x.passes("no member", pairOf(t, 9, 0, 1, 2, 3))
	x.passes("another epoch", gone(t, 2, 1, 0, 1, 2, 3))
	later := pairOf(t, 2, 0, 1, 2, 3)
	later.enters(1, 1)
	x.passes("another view", later)
}

// Who isn't active takes no proposal of its own view, no prepare and no commit.
func TestWhatIsTakenByWhoIsntActive(t *testing.T) {
	q := put(1, 1, "k", 2)
	active := func() *pair {
		p := pairOf(t, 2, 0, 1, 2, 3)
		p.enters(1, 1)
		return p
	}
	for _, m := range []api.Msg{proposeMsg(0, 1, 1, q), prepareMsg(1, 0, 1, 1, q), commitMsg(0, 1, 1, q)} {
		x := trialOf(t, active, 1, m)
		x.passes("not active", idle(t, 2))
	}
}

// The null request needs no signature.
func TestANullProposal(t *testing.T) {
	p := pairOf(t, 2, 0, 1, 2, 3)
	p.expect(p.handle(1, 0, proposeMsg(0, 0, 1, null)), p.to([]int{0, 1, 3}, prepareMsg(2, 0, 0, 1, null))...)
}

// The log refuses a second proposal, the same or another one; nothing is signed then, and no timer is started.
func TestSecondProposals(t *testing.T) {
	p := pairOf(t, 2, 0, 1, 2, 3)
	q := put(1, 1, "k", 2)
	p.does(1, 1, q)
	for _, again := range []api.Request{q, put(1, 2, "k", 2), put(2, 1, "k", 2), null} {
		p.expectNone(p.handle(2, 0, proposeMsg(0, 0, 1, again)))
		p.stands(0, 0, true, 1, leaves-1)
	}
	p.ticks(3, 30)
	p.stands(0, 0, true, 1, leaves-1)
}

// two answers one that took up a proposal in the slot 1 which one other member prepared.
func two(t *testing.T, q api.Request) func() *pair {
	return func() *pair {
		p := pairOf(t, 2, 0, 1, 2, 3)
		p.proposes(1, 1, q)
		p.prepares(1, 1, q, 0)
		return p
	}
}

func TestWhichPreparesAreTaken(t *testing.T) {
	q := put(1, 1, "k", 2)
	m := prepareMsg(1, 0, 0, 1, q)
	x := trialOf(t, two(t, q), 1, m)
	x.refusesStrange()
	for _, from := range []int{0, 3, 4, 9, 101, -1, 200} {
		x.refuses("of another one", from, m)
	}
	x.refuses("of who is no member", 9, prepareMsg(9, 0, 0, 1, q))
	x.refuses("of who prepared already", 0, prepareMsg(0, 0, 0, 1, q))
	x.refuses("of who prepared already, another request", 0, prepareMsg(0, 0, 0, 1, null))
	x.refuses("of another epoch", 1, prepareMsg(1, 1, 0, 5, q))
	for view := 1; view <= lastView; view++ {
		x.refuses("of another view", 1, prepareMsg(1, 0, view, 1, q))
		x.refuses("signed for another view", 1, withSigs(m, prepareMsg(1, 0, view, 1, q).Sigs...))
	}
	for _, wrong := range []api.Msg{prepareMsg(3, 0, 0, 1, q), prepareMsg(1, 1, 0, 5, q), prepareMsg(1, 0, 0, 2, q), prepareMsg(1, 0, 0, 1, null)} {
		x.refuses("of another signature", 1, withSigs(m, wrong.Sigs...))
	}
	x.refuses("without a signature", 1, withSigs(m))
	x.passes("no member", pairOf(t, 9, 0, 1, 2, 3))
	x.passes("another epoch", gone(t, 2, 1, 0, 1, 2, 3))
}

func TestWhichCommitsAreTaken(t *testing.T) {
	q := put(1, 1, "k", 2)
	stand := func() *pair {
		p := two(t, q)()
		p.prepares(1, 1, q, 1)
		p.commits(1, 1, q, 0)
		return p
	}
	m := commitMsg(0, 0, 1, q)
	x := trialOf(t, stand, 1, m)
	x.refusesStrange()
	for _, from := range []int{0, 4, 9, 15, 100, 101, -1, 200} {
		x.refuses("of who committed already, or is no member", from, m)
	}
	x.refuses("of who committed already, another request", 0, commitMsg(0, 0, 1, null))
	x.refuses("of another epoch", 1, commitMsg(1, 0, 5, q))
	for view := 1; view <= lastView; view++ {
		x.refuses("of another view", 1, commitMsg(0, view, 1, q))
	}
	x.passes("no member", pairOf(t, 9, 0, 1, 2, 3))
	x.passes("another epoch", gone(t, 2, 1, 0, 1, 2, 3))
}

// twoVotes answers one that did its epoch, voted, and has another one's vote.
func twoVotes(t *testing.T, id int) *pair {
	p := pairOf(t, id, 0, 1, 2, 3)
	for slot := 1; slot <= interval; slot++ {
		p.does(slot, slot, put(1, slot, "k", 2))
	}
	p.votes(5, p.peers(1)...)
	p.stands(0, 0, true, 4, leaves-6)
	return p
}

func TestWhichVotesAreTaken(t *testing.T) {
	stand := func() *pair { return twoVotes(t, 2) }
	full := stand().m.ledger
	m := voteFor(1, full)
	x := trialOf(t, stand, 1, m)
	x.refusesStrange()
	for _, from := range []int{0, 3, 4, 9, 101, -1, 200} {
		x.refuses("of another one", from, m)
	}
	x.refuses("of who is no member", 9, voteFor(9, full))
	x.refuses("of who has voted", 0, voteFor(0, full))
	other := full.Copy()
	other.Turn()
	x.refuses("of who has voted, for another state", 0, voteMsg(0, 0, "another", []int{0, 1, 2, 3}))
	fill(other)
	x.refuses("of the next epoch", 1, voteFor(1, other))
	x.refuses("told of the next epoch", 1, with(m, func(m *api.Msg) { m.Epoch, m.Slot = 1, 8 }))
	x.refuses("with one signature", 1, withSigs(m, m.Sigs[0]))
	x.refuses("with three signatures", 1, withSigs(m, m.Sigs[0], m.Sigs[1], m.Sigs[1]))
	x.refuses("with its signatures the other way round", 1, withSigs(m, m.Sigs[1], m.Sigs[0]))
	for i := range 2 {
		for _, by := range []int{0, 3, 101} {
			x.refuses("with another one's signature", 1, with(m, func(m *api.Msg) { m.Sigs[i].By = by }))
		}
		x.refuses("with a signature of another text", 1, with(m, func(m *api.Msg) { m.Sigs[i].Text += "x" }))
	}
	x.refuses("with another text", 1, with(m, func(m *api.Msg) { m.Text += "x" }))
	x.refuses("with other members", 1, with(m, func(m *api.Msg) { m.Next = []int{0, 1, 2, 4} }))
	x.refuses("without a text", 1, with(m, func(m *api.Msg) { m.Text = "" }))
}

// threatened answers one that another member's change came to, for the view 1, which a third one leads.
func threatened(t *testing.T) *pair {
	p := pairOf(t, 2, 0, 1, 2, 3)
	p.changes(1, 1, 0)
	p.stands(0, 0, true, 0, leaves)
	return p
}

func TestWhichChangesAreTaken(t *testing.T) {
	q := put(1, 1, "k", 2)
	m := changeMsg(0, 3, 1, certOf(0, 0, 2, q, 0, 1, 3))
	x := trialOf(t, func() *pair { return threatened(t) }, 3, m)
	x.refusesStrange()
	for _, from := range []int{0, 1, 4, 9, 101, -1, 200} {
		x.refuses("of another one", from, m)
	}
	x.refuses("of who is no member", 9, changeMsg(0, 9, 1))
	x.refuses("of who came already", 0, changeMsg(0, 0, 1))
	x.refuses("of who came already, with another certificate", 0, changeMsg(0, 0, 1, m.Changes[0].Certs...))
	x.refuses("of another epoch", 3, changeMsg(1, 3, 1))
	x.refuses("told of another epoch", 3, with(changeMsg(0, 3, 1), func(m *api.Msg) { m.Epoch = 1 }))
	x.refuses("signed for another epoch", 3, with(m, func(m *api.Msg) { m.Changes[0] = changeOf(1, 3, 1) }))
	x.refuses("of another view than it says", 3, with(m, func(m *api.Msg) { m.View = 2 }))
	x.refuses("two of them", 3, with(m, func(m *api.Msg) { m.Changes = append(m.Changes, changeOf(0, 1, 1)) }))
	x.refuses("signed by another one", 3, with(m, func(m *api.Msg) { m.Changes[0].Sig.By = 1 }))
	x.refuses("signed, another text", 3, with(m, func(m *api.Msg) { m.Changes[0].Sig = changeOf(0, 3, 1).Sig }))
	x.refuses("signed for another view", 3, with(m, func(m *api.Msg) { m.Changes[0].Sig = changeOf(0, 3, 2, m.Changes[0].Certs...).Sig }))
	for _, c := range []api.Cert{
		certOf(0, 1, 2, q, 0, 1, 3), certOf(0, 2, 2, q, 0, 1, 3), // of a view that isn't below
		certOf(0, 0, 2, q, 0, 1), certOf(0, 0, 2, q), certOf(0, 0, 2, q, 0, 1, 9), certOf(0, 0, 2, q, 0, 0, 1, 3), certOf(0, 0, 2, q, 3, 1, 0), // no proofs
		{View: 0, Slot: 2, Req: q, Sigs: certOf(0, 0, 1, q, 0, 1, 3).Sigs}, {View: 0, Slot: 2, Req: null, Sigs: certOf(0, 0, 2, q, 0, 1, 3).Sigs},
	} {
		x.refuses("with a certificate that isn't good", 3, changeMsg(0, 3, 1, c))
	}
	x.passes("no member", pairOf(t, 9, 0, 1, 2, 3))
	x.passes("another epoch", gone(t, 2, 1, 0, 1, 2, 3))
	active := pairOf(t, 2, 0, 1, 2, 3)
	active.enters(1, 1)
	x.passes("active in the view", active)
	later := pairOf(t, 2, 0, 1, 2, 3)
	later.changes(1, 3, 0, 1)
	later.stands(0, 3, false, 0, leaves-1)
	x.passes("a later view", later)
}

func TestWhichBeginningsOfViewsAreTaken(t *testing.T) {
	q := put(1, 1, "k", 2)
	cert := certOf(0, 0, 2, q, 0, 1, 3)
	m := newViewMsg(0, 1, changeOf(0, 0, 1), changeOf(0, 1, 1, cert), changeOf(0, 3, 1))
	x := trialOf(t, standing4(t, 2), 1, m)
	x.refusesStrange()
	for _, from := range []int{0, 3, 4, 9, 100, 101, -1, 200} {
		x.refuses("not of the view's primary", from, m)
	}
	x.refuses("of another view than the primary's", 1, plainNewView(0, 3, 0, 1, 3))
	x.refuses("of another epoch", 1, plainNewView(1, 1, 0, 1, 3))
	x.refuses("told of another epoch", 1, with(plainNewView(0, 1, 0, 1, 3), func(m *api.Msg) { m.Epoch = 1 }))
	x.refuses("of fewer than a quorum", 1, plainNewView(0, 1, 0, 1))
	x.refuses("of members that don't rise", 1, plainNewView(0, 1, 1, 0, 3))
	x.refuses("of members that come twice", 1, plainNewView(0, 1, 0, 1, 1))
	x.refuses("of one who is no member", 1, plainNewView(0, 1, 0, 1, 9))
	x.refuses("of another view's change", 1, with(m, func(m *api.Msg) { m.Changes[2] = changeOf(0, 3, 2) }))
	x.refuses("of another epoch's change", 1, with(m, func(m *api.Msg) { m.Changes[2] = changeOf(1, 3, 1) }))
	for i := range 3 {
		x.refuses("of a change that another one signed", 1, with(m, func(m *api.Msg) { m.Changes[i].Sig.By = 2 }))
		x.refuses("of a change that isn't signed", 1, with(m, func(m *api.Msg) { m.Changes[i].Sig.Text = "" }))
	}
	x.refuses("with a certificate of the view", 1, with(m, func(m *api.Msg) { m.Changes[1] = changeOf(0, 1, 1, certOf(0, 1, 2, q, 0, 1, 3)) }))
	x.refuses("with a certificate of too few", 1, with(m, func(m *api.Msg) { m.Changes[1] = changeOf(0, 1, 1, certOf(0, 0, 2, q, 0, 1)) }))
	x.passes("no member", pairOf(t, 9, 0, 1, 2, 3))
	x.passes("another epoch", gone(t, 2, 1, 0, 1, 2, 3))
	active := pairOf(t, 2, 0, 1, 2, 3)
	active.enters(1, 1)
	x.passes("active in the view", active)
	later := pairOf(t, 0, 0, 1, 2, 3)
	later.changes(1, 2, 1, 2)
	later.stands(0, 2, false, 0, leaves-1)
	x.passes("a later view", later)
}

// It is taken from the view itself, by who isn't active there, and from any view below.
func TestFromWhichViewsOneEnters(t *testing.T) {
	for view := 1; view <= lastView; view++ {
		for below := range view + 1 {
			p := pairOf(t, 9, 0, 4, 8, 9, 12)
			if view%5 == 3 {
				continue // it leads that view itself
			}
			if below > 0 {
				p.changes(1, below, 0, 4)
			}
			if below%5 == 3 {
				p.changes(2, below, 8) // it leads that view, and a quorum went there
			}
			p.enters(3, view)
			if p.r.View() != view || !p.r.Active() {
				t.Error(below, view, p.r.View(), p.r.Active())
			}
		}
	}
}

func TestWhoFetches(t *testing.T) {
	r := walked(3, 0, 1, 2, 3)
	for _, id := range []int{0, 2, 9} {
		stand := func() *pair { return gone(t, id, 3, 0, 1, 2, 3) }
		x := trialOf(t, stand, 1, fetchMsg(2))
		x.refusesStrange()
		x.refuses("of its own epoch", 1, fetchMsg(3))
		x.refuses("of a later epoch", 1, fetchMsg(4))
		x.refuses("of the last epoch", 1, fetchMsg(lastEpoch))
		x.passes("nothing was settled", pairOf(t, id, 0, 1, 2, 3))
		for _, from := range []int{1, 3, 9, 15, 100, 101, 108, 199} {
			if from == id {
				continue
			}
			for epoch := range 3 {
				p := stand()
				p.expect(p.handle(1, from, fetchMsg(epoch)), api.Packet{From: id, To: from, Msg: r.state()})
			}
		}
	}
}

func TestWhichStatesAreTaken(t *testing.T) {
	q := join(1, 1, 7)
	r := roadOf(0, 1, 2, 3).walk(q).walk(put(1, 2, "k", 2))
	m := r.state() // the second link's state was signed by 0, 1, 2 and 3, of 0, 1, 2, 3 and 7
	x := trialOf(t, standing4(t, 2), 9, m)
	x.refusesStrange()
	x.refuses("of its own epoch", 9, with(m, func(m *api.Msg) { m.Epoch, m.Slot, m.Links = 0, 0, nil }))
	x.refuses("of fewer links", 9, with(m, func(m *api.Msg) { m.Links = m.Links[:1] }))
	x.refuses("of another slot", 9, with(m, func(m *api.Msg) { m.Slot = 4 }))
	text := stateText(m.Slot, m.Text)
	for _, sigs := range [][]api.Sig{
		nil, signatures(text, 0, 1, 2), signatures(text, 0, 1, 2, 9), signatures(text, 0, 1, 1, 2), signatures(text, 3, 2, 1, 0), signatures(text, 0, 1, 2, 3, 9),
		signatures(m.Text, 0, 1, 2, 3), signatures(stateText(4, m.Text), 0, 1, 2, 3), signatures(stateText(8, "another"), 0, 1, 2, 3),
		append(signatures(text, 0, 1, 2), api.Sig{By: 3, Text: m.Text}),
	} {
		x.refuses("of signatures that are no proof", 9, withSigs(m, sigs...))
	}
	for i := range 2 {
		x.refuses("of a link with too few signatures", 9, with(m, func(m *api.Msg) { m.Links[i].Sigs = m.Links[i].Sigs[:2] }))
		x.refuses("of a link with another one's signature", 9, with(m, func(m *api.Msg) { m.Links[i].Sigs[1].By = 9 }))
		x.refuses("of a link with other members", 9, with(m, func(m *api.Msg) { m.Links[i].Conf.Members = []int{0, 1, 2, 3} }))
	}
	x.passes("its own epoch", gone(t, 2, 2, 0, 1, 2, 3))
	x.passes("a later epoch", gone(t, 2, 3, 0, 1, 2, 3))
	x.passes("another chain", gone(t, 2, 1, 0, 1, 2, 3))
	x.passes("another first configuration", pairOf(t, 2, 0, 1, 4, 5))
}

// signedState answers the state with another text, rightly signed by the last but one configuration.
func signedState(m api.Msg, text string) api.Msg {
	return with(m, func(m *api.Msg) {
		var by []int
		for _, s := range m.Sigs {
			by = append(by, s.By)
		}
		m.Text, m.Sigs = text, signatures(stateText(m.Slot, text), by...)
	})
}

// A quorum may sign what is no such state: nobody takes it.
func TestSignedStatesThatArentGood(t *testing.T) {
	for _, q := range []api.Request{null, join(1, 1, 7)} {
		earlier := roadOf(0, 1, 2, 3).ledger
		earlier.Do(q)
		fill(earlier)
		r := roadOf(0, 1, 2, 3).walk(q)
		m := r.state()
		x := trialOf(t, standing4(t, 2), 9, m)
		one := r.ledger.Copy()
		one.Do(null)
		full := one.Copy()
		fill(full)
		further := full.Copy()
		further.Turn()
		for name, text := range map[string]string{
			"no ledger":             "x",
			"a ledger and more":     m.Text + "\x00",
			"a slot more":           one.Text(),
			"the whole epoch":       full.Text(),
			"a later epoch's":       further.Text(),
			"the end of that ahead": earlier.Text(),
			"that of more members":  roadOf(0, 1, 2, 3).walk(join(1, 1, 8)).ledger.Text(),
			"that of fewer members": roadOf(0, 1, 2, 3, 4).walk(leave(1, 1, 4), leave(1, 2, 3)).ledger.Text(),
		} {
			if q == null && name == "that of fewer members" {
				continue // these are just the members
			}
			x.refuses(name, 9, signedState(m, text))
		}
	}
}

// What is fetched is taken by members and by others, whatever they did until then.
func TestStatesThatAreTaken(t *testing.T) {
	for _, epochs := range []int{1, 2, 5, lastEpoch} {
		r := walked(epochs, 0, 1, 2, 3)
		for _, id := range []int{0, 2, 9} {
			p := pairOf(t, id, 0, 1, 2, 3)
			p.expectNone(p.handle(1, 15-id, r.state()))
			p.stands(epochs, 0, true, interval*epochs, leaves)
			if len(p.r.History()) != 0 || len(p.r.Chain()) != epochs || p.r.State() != r.ledger.Text() {
				t.Error(p.tell())
			}
			for _, from := range []int{1, 105} {
				p.expect(p.handle(2, from, fetchMsg(0)), api.Packet{From: id, To: from, Msg: r.state()})
			}
		}
	}
}

// A state takes one from any view, and from any epoch below; not one that is as far.
func TestStateBehindState(t *testing.T) {
	p := pairOf(t, 2, 0, 1, 2, 3)
	p.changes(1, 5, 0, 1)
	for epochs := 1; epochs <= 9; epochs += 2 {
		r := walked(epochs, 0, 1, 2, 3)
		p.handle(epochs, 3, r.state())
		p.stands(epochs, 0, true, interval*epochs, leaves-1-epochs/2)
		before := p.tell()
		for again := 1; again <= epochs; again++ {
			p.expectNone(p.handle(epochs, 3, walked(again, 0, 1, 2, 3).state()))
		}
		if p.tell() != before {
			t.Error(p.tell())
		}
		p.changes(epochs, 2, 0, 1)
	}
}

// Each link may be signed by another quorum than the one that is known: the longer chain counts.
func TestLinksSignedByOthers(t *testing.T) {
	p := gone(t, 2, 1, 0, 1, 2, 3)
	m := walked(2, 0, 1, 2, 3).state()
	m.Links[0].Sigs = signatures(confText(m.Links[0].Conf), 1, 2, 3)
	p.handle(1, 0, m)
	p.stands(2, 0, true, 8, leaves)
	if got := p.r.Chain(); !slices.EqualFunc(got, m.Links, isEqualLink) {
		t.Error(tellLinks(got))
	}
}

// A reply comes to nothing, whoever sends it.
func TestReplies(t *testing.T) {
	q := put(1, 1, "k", 2)
	x := trialOf(t, standing4(t, 0), 101, askMsg(q))
	for _, from := range []int{1, 3, 9, 101} {
		x.refuses("a reply", from, replyMsg(0, q, api.Result{Real: 2}))
		x.refuses("a reply of another epoch", from, replyMsg(3, q, api.Result{}))
	}
}
