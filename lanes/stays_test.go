package lanes_test

import (
	"testing"

	"witan/api"
	"witan/lanes"
)

// R4: memory. What is handed in and what is answered is spoilt behind each call; here with packets that have lists in all places.

func TestWhatIsHandedInIsTheCallersOwn(t *testing.T) {
	p := pairOf(t, 3)
	for _, m := range append(messages(numbered(3, "x")), full(numbered(3, "x"))) {
		p.send(packet(1, 2, m), packet(2, 1, m))
		p.inject(packet(3, 2, m))
	}
	p.drain()
}

// The list of bad nodes is kept as it was.
func TestBadNodesStay(t *testing.T) {
	bad := []int{3, 5}
	l := lanes.New(bad)
	bad[0], bad[1] = 1, 2
	for from := range 7 {
		want := api.ErrArg
		if from == 3 || from == 5 {
			want = api.OK
		}
		if e := l.Inject(packet(from, 0, prepare(sig(5, "x")))); e != want {
			t.Error(from, e)
		}
		if e := l.Inject(packet(3, 0, prepare(sig(from, "x")))); (e == api.OK) != (want == api.OK) {
			t.Error(from, e)
		}
	}
}

// Whoever writes over the signatures that were sent, or over those that are taken, makes nothing derivable.
func TestNotedSignaturesStay(t *testing.T) {
	l := lanes.New([]int{3})
	sigs := []api.Sig{sig(1, "x")}
	l.Send(packet(1, 2, prepare(sigs...)), packet(1, 2, api.Msg{Kind: api.MPrepare, Slot: 1, Sigs: sigs}))
	sigs[0] = sig(2, "y")
	for range 2 {
		got, _ := l.Take(0)
		if got.Msg.Sigs[0] != sig(1, "x") {
			t.Error(got)
		}
		got.Msg.Sigs[0] = sig(2, "z")
	}
	for _, s := range []api.Sig{sig(2, "y"), sig(2, "z")} {
		if e := l.Inject(packet(3, 0, prepare(s))); e != api.ErrSig {
			t.Error(s, e)
		}
	}
	if e := l.Inject(packet(3, 0, prepare(sig(1, "x")))); e != api.OK {
		t.Error(e)
	}
}

// Those that are alike share no memory: each copy, and a copy of a copy, is as it came, whatever becomes of the others.
func TestCopiesAreApart(t *testing.T) {
	for _, m := range append(messages(numbered(1, "x")), full(numbered(1, "x"))) {
		p := pairOf(t, 3)
		p.send(packet(1, 2, m))
		p.copy(0)
		p.copy(0)
		p.copy(-1)
		p.take(1)
		p.take(-1)
		p.drain()
	}
}

// One packet that is handed in several times at once is several packets.
func TestOnePacketSeveralTimes(t *testing.T) {
	m := full(numbered(1, "x"))
	x := packet(1, 2, m)
	l := lanes.New(nil)
	l.Send(x, x)
	l.Send(x)
	for range 3 {
		got, ok := l.Take(0)
		if !ok || tell(got) != tell(x) {
			t.Fatal("not as it came")
		}
		spoil(&got)
	}
}

// Lists that are one in the packet that is handed in are apart in the one that is answered.
func TestListsOfOnePacketAreApart(t *testing.T) {
	ids, sigs := []int{0, 1, 2, 4}, some(3, numbered(1, "x"))
	certs := []api.Cert{{Slot: 1, Sigs: sigs}, {Slot: 2, Sigs: sigs}}
	links := []api.Link{{Conf: api.Conf{Members: ids}, Sigs: sigs}, {Conf: api.Conf{Members: ids}, Sigs: sigs}}
	changes := []api.Change{{From: 1, Certs: certs}, {From: 2, Certs: certs}}
	x := packet(3, 2, api.Msg{Kind: api.MFetch, Next: ids, Sigs: sigs, Changes: changes, Links: links})
	l := lanes.New(nil)
	l.Send(x)
	got, _ := l.Take(0)
	m := got.Msg
	lists := []*[]api.Sig{&m.Sigs, &m.Links[0].Sigs, &m.Links[1].Sigs}
	for i := range m.Changes {
		for j := range m.Changes[i].Certs {
			lists = append(lists, &m.Changes[i].Certs[j].Sigs)
		}
	}
	for i, list := range lists {
		for j := range *list {
			if (*list)[j] != sigs[j] {
				t.Error("the list", i, "shares memory with another one")
			}
			(*list)[j] = sig(-7, "spoilt")
		}
	}
	m.Changes[0].Certs[0].Slot = -7
	m.Next[0], m.Links[0].Conf.Members[1] = -7, -7
	if m.Changes[1].Certs[0].Slot != 1 || m.Next[1] != 1 || m.Links[0].Conf.Members[0] != 0 || m.Links[1].Conf.Members[0] != 0 || m.Links[1].Conf.Members[1] != 1 {
		t.Error("lists share memory")
	}
}
