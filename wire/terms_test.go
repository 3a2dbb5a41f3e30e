package wire_test

import (
	"math"
	"math/rand"
	"slices"
	"strings"
	"testing"

	"witan/api"
	"witan/wire"
)

// P13.1: all signatures in a message.

// bys answers who signed, in the list's order.
func bys(list []api.Sig) []int {
	var who []int
	for _, s := range list {
		who = append(who, s.By)
	}
	return who
}

// A message that fits nowhere, with signatures in each place: in their order.
func TestTermsInTheirOrder(t *testing.T) {
	m := api.Msg{
		Kind: 77,
		Sigs: []api.Sig{sig(1, "a"), sig(2, "")},
		Changes: []api.Change{
			change(9, -4, sig(6, "c"), cert(0, 900, get(), sig(3, ""), sig(4, "")), cert(0, 1, get()), cert(0, 2, get(), sig(5, ""))),
			change(0, 0, sig(7, "")),
			change(0, 0, sig(9, ""), cert(0, 0, api.Request{Client: -1}, sig(8, ""))),
		},
		Links: []api.Link{{Sigs: []api.Sig{sig(10, ""), sig(11, "")}}, {}, {Sigs: []api.Sig{sig(12, "")}}},
	}
	got := wire.Terms(m)
	if !slices.Equal(bys(got), []int{1, 2, 3, 4, 5, 6, 7, 8, 9, 10, 11, 12}) {
		t.Error(got)
	}
	if got[0].Text != "a" || got[5].Text != "c" {
		t.Error(got)
	}
}

func TestTermsOfNone(t *testing.T) {
	for _, m := range []api.Msg{{}, {Kind: api.MFetch}, {Sigs: []api.Sig{}, Changes: []api.Change{}, Links: []api.Link{}}, {Links: []api.Link{{}, {}}}, {Text: "x", Next: upTo(4)}} {
		if got := wire.Terms(m); len(got) != 0 {
			t.Error(got)
		}
	}
	// A change has a signature, be it zero.
	if got := wire.Terms(api.Msg{Changes: []api.Change{{}, {}}}); !slices.Equal(got, []api.Sig{{}, {}}) {
		t.Error(got)
	}
}

// As often as they stand, whoever signed what.
func TestTermsThatComeAgain(t *testing.T) {
	same := sig(5, "same")
	m := api.Msg{
		Kind:    api.MState,
		Sigs:    []api.Sig{same, same},
		Changes: []api.Change{change(1, 1, same, cert(0, 1, get(), same, same)), change(1, 1, same)},
		Links:   []api.Link{{Sigs: []api.Sig{same}}},
	}
	if got := wire.Terms(m); !slices.Equal(got, []api.Sig{same, same, same, same, same, same, same}) {
		t.Error(got)
	}
	for _, by := range []int{-1, 200, math.MinInt, math.MaxInt} {
		m := api.Msg{Kind: api.MPrepare, Sigs: []api.Sig{sig(by, strings.Repeat("x", 1<<17))}}
		if got := wire.Terms(m); !slices.Equal(got, m.Sigs) {
			t.Error(len(got))
		}
	}
}

func TestTermsOfMany(t *testing.T) {
	roll := rand.New(rand.NewSource(4))
	edits := allEdits()
	list := append(fitting(), few()...)
	for range 5000 {
		m := rolled(roll)
		for range roll.Intn(3) {
			edits[roll.Intn(len(edits))].do(&m)
		}
		list = append(list, m)
	}
	for _, m := range list {
		if got := wire.Terms(m); !slices.Equal(got, modelTerms(m)) {
			t.Errorf("%s: %v", short(plain(m)), got)
		}
	}
	long := wire.Terms(api.Msg{Sigs: make([]api.Sig, 100000), Links: make([]api.Link, 100000), Changes: make([]api.Change, 100000)})
	if len(long) != 200000 {
		t.Error(len(long))
	}
}

// R4: memory.

// scribble changes each list of a message, and what stands behind each in its memory.
func scribble(m *api.Msg) {
	scribbleInts(m.Next)
	scribbleSigs(m.Sigs)
	for i := range m.Changes {
		for j := range m.Changes[i].Certs {
			scribbleSigs(m.Changes[i].Certs[j].Sigs)
			m.Changes[i].Certs[j] = api.Cert{View: -7}
		}
		m.Changes[i] = api.Change{From: -7}
	}
	for i := range m.Links {
		scribbleInts(m.Links[i].Conf.Members)
		scribbleSigs(m.Links[i].Sigs)
		m.Links[i] = api.Link{Conf: api.Conf{Epoch: -7}}
	}
}

func scribbleInts(list []int) {
	list = list[:cap(list)]
	for i := range list {
		list[i] = -7
	}
}

func scribbleSigs(list []api.Sig) {
	list = list[:cap(list)]
	for i := range list {
		list[i] = sig(-7, "scribbled")
	}
}

// What the caller does to a message behind the call changes nothing that was answered.
func TestMemoryOfWhatIsHandedIn(t *testing.T) {
	for _, base := range append(few(), fitting()...) {
		m := copied(base)
		s, e := wire.Bytes(m)
		kept := strings.Clone(s)
		all := wire.Terms(m)
		scribble(&m)
		if s != kept || e != api.OK {
			t.Errorf("%s: %q %d", short(plain(base)), short(s), e)
		}
		if !slices.Equal(all, modelTerms(base)) {
			t.Errorf("%s: %v", short(plain(base)), all)
		}
		if again, e := wire.Bytes(base); e != api.OK || again != kept {
			t.Errorf("%s: %q %d", short(plain(base)), short(again), e)
		}
	}
}

// Nor does what the caller does to what was answered, to what is answered again, or to what was handed in.
func TestMemoryOfWhatIsAnswered(t *testing.T) {
	for _, base := range append(few(), fitting()...) {
		want := plain(canon(base))
		s := layoutOf(base)
		first, _ := wire.Read(s)
		second, _ := wire.Read(s)
		all, others := wire.Terms(first), wire.Terms(first)
		scribble(&first)
		third, _ := wire.Read(s)
		if plain(second) != want || plain(third) != want {
			t.Errorf("%s became %s and %s", short(want), short(plain(second)), short(plain(third)))
		}
		if !slices.Equal(all, modelTerms(base)) {
			t.Errorf("%s: %v", short(want), all)
		}
		scribbleSigs(all)
		if !slices.Equal(others, modelTerms(base)) || plain(second) != want {
			t.Errorf("%s: %v", short(want), others)
		}
		terms := wire.Terms(second)
		scribbleSigs(terms)
		if plain(second) != want {
			t.Errorf("%s became %s", short(want), short(plain(second)))
		}
	}
}

// listsOf answers each list of signatures and of members in a message, by how to scribble on it.
func listsOf(m *api.Msg) []func() {
	list := []func(){func() { scribbleInts(m.Next) }, func() { scribbleSigs(m.Sigs) }}
	for i := range m.Changes {
		for j := range m.Changes[i].Certs {
			list = append(list, func() { scribbleSigs(m.Changes[i].Certs[j].Sigs) })
		}
	}
	for i := range m.Links {
		list = append(list, func() { scribbleInts(m.Links[i].Conf.Members) }, func() { scribbleSigs(m.Links[i].Sigs) })
	}
	return list
}

// No two lists of one answer share any memory: who writes into one, and behind its end as far as its memory goes, changes that one alone.
func TestMemoryOfListsInOneAnswer(t *testing.T) {
	for _, base := range few() {
		s := layoutOf(base)
		m, _ := wire.Read(s)
		for i := range listsOf(&m) {
			got, _ := wire.Read(s)
			want := copied(got)
			listsOf(&got)[i]()
			listsOf(&want)[i]()
			if plain(got) != plain(want) {
				t.Errorf("the list %d: %s, not %s", i, short(plain(got)), short(plain(want)))
			}
		}
		for i := range m.Changes {
			got, _ := wire.Read(s)
			want := copied(got)
			for _, x := range []*api.Msg{&got, &want} {
				certs := x.Changes[i].Certs
				certs = certs[:cap(certs)]
				for j := range certs {
					certs[j] = api.Cert{View: -7}
				}
			}
			if plain(got) != plain(want) {
				t.Errorf("the certs of %d: %s, not %s", i, short(plain(got)), short(plain(want)))
			}
		}
	}
}

// R6: one answer, however often it is asked, and whatever was asked between.
func TestOneAnswer(t *testing.T) {
	for _, m := range few() {
		s, e := wire.Bytes(m)
		wire.Read("\x09")
		wire.Bytes(api.Msg{Kind: 99})
		again, f := wire.Bytes(m)
		if s != again || e != f {
			t.Errorf("%q %d, %q %d", s, e, again, f)
		}
		if _, e := wire.Read(s[:len(s)-1]); e != api.ErrBytes {
			t.Error(e)
		}
		if back, e := wire.Read(s); e != api.OK || plain(back) != plain(canon(m)) {
			t.Error(e)
		}
	}
}
