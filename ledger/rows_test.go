package ledger_test

import (
	"math"
	"math/rand"
	"slices"
	"strings"
	"testing"
	"unsafe"

	"witan/api"
	"witan/ledger"
)

// P12.1, P12.3: rows of calls by chance, from fixed seeds, held against the model step by step; a copy and a ledger that was opened go on beside the first one.

// chance answers a request by chance: of few keys, clients, stamps and replicas, so that all that can happen does.
func chance(r *rand.Rand) api.Request {
	switch r.Intn(12) {
	case 0:
		return api.Request{}
	case 1:
		wrong := wrongRequests()
		return wrong[r.Intn(len(wrong))]
	}
	client, stamp := 1+r.Intn(lastClient), 1+r.Intn(60)
	kind := 1 + r.Intn(7)
	if kind >= api.OpJoin {
		return request(client, stamp, kind, "", 0, r.Intn(ids))
	}
	key := keyOf(r.Intn(mostKeys + 2))
	if kind >= api.OpCut {
		return request(client, stamp, kind, key, 0, 0)
	}
	list := someReals()
	return request(client, stamp, kind, key, list[r.Intn(len(list))], 0)
}

// beside does to each ledger what was done to the pair, and asks that all answer and stand alike.
func beside(t *testing.T, p *pair, others []*ledger.Ledger, r api.Request, turns bool) {
	t.Helper()
	if turns {
		want := p.turn()
		for _, l := range others {
			if e := l.Turn(); e != want {
				t.Fatalf("Turn: %d, not %d", e, want)
			}
			expectStands(t, l, p.m)
		}
		return
	}
	want, wantErr := p.do(r)
	for _, l := range others {
		x, e := l.Do(r)
		if x.Code != want.Code || math.Float64bits(x.Real) != math.Float64bits(want.Real) || e != wantErr {
			t.Fatalf("Do of %+v: %v %d, not %v %d", r, x, e, want, wantErr)
		}
		expectStands(t, l, p.m)
	}
}

func TestRowsByChance(t *testing.T) {
	for seed := range int64(12) {
		r := rand.New(rand.NewSource(seed))
		p := pairOf(t, firstMembers(least+r.Intn(most-least+1))...)
		others := []*ledger.Ledger{p.l.Copy(), expectOpens(t, p.l.Text())}
		for range 330 {
			beside(t, p, others, chance(r), r.Intn(4) == 0)
			switch r.Intn(6) {
			case 0:
				others[0] = others[r.Intn(2)].Copy()
			case 1:
				others[1] = expectOpens(t, p.l.Text())
			case 2:
				others[1], p.l = p.l, others[1]
			}
		}
	}
}

// At each step it is opened again, and all that may come behind it comes to the same.
func TestOpenedAtEachStep(t *testing.T) {
	row := []api.Request{
		put(1, 1, "k", math.NaN()), put(2, 1, "a", minusNought), join(3, 1, 9), get(4, 1, "none"),
		request(1, 2, api.OpAdd, "k", 1, 0), cut(2, 2, "a"), leave(3, 2, 0), {},
		put(1, 2, "x", 1), put(1, 1, "x", 1), request(8, lastStamp, api.OpMax, "k", 3, 0), leave(3, 3, 9),
		join(5, 7, 10), join(5, 8, 11), put(6, 1, "0123456789abcdef", math.Inf(-1)), {},
	}
	for at := range len(row) + 1 {
		p := four(t)
		for _, q := range row[:at] {
			p.room().do(q)
		}
		opened, copied := expectOpens(t, p.l.Text()), p.l.Copy()
		for _, q := range row[at:] {
			if p.l.Full() {
				beside(t, p, []*ledger.Ledger{opened, copied}, q, true)
			}
			beside(t, p, []*ledger.Ledger{opened, copied}, q, false)
		}
	}
}

// Texts by chance, made of a ledger's own pieces: what is opened is what is told so, or nothing.
func TestOpenByChance(t *testing.T) {
	r := rand.New(rand.NewSource(7))
	models := someModels()
	for range 3000 {
		parts := models[r.Intn(len(models))].parts()
		for i := range parts {
			if r.Intn(3) == 0 {
				parts[i] = models[r.Intn(len(models))].parts()[i]
			}
		}
		bytes := []byte(strings.Join(parts, ""))
		for range r.Intn(3) {
			bytes[r.Intn(len(bytes))] = byte(r.Intn(256))
		}
		expectOpens(t, string(bytes))
	}
}

// P12.3: of many ledgers by chance two have the same bytes just if all that they tell is the same.
func TestSameBytesJustIfNothingTells(t *testing.T) {
	tells := map[string]string{}
	texts := map[string]string{}
	met := 0
	for seed := range int64(400) {
		r := rand.New(rand.NewSource(seed % 300))
		l, _ := ledger.New(api.Conf{Members: firstMembers(4 + r.Intn(2))})
		for range r.Intn(6) {
			l.Do([]api.Request{put(1, 1, "k", 0), put(1, 1, "k", minusNought), put(2, 1, "a", 1), put(2, 1, "a", 2), {}, join(3, 1, 5)}[r.Intn(6)])
			if r.Intn(2) == 0 {
				l.Turn()
			}
		}
		text, tell := l.Text(), told(l)
		if was, known := tells[text]; known {
			met++
			if was != tell {
				t.Fatalf("the same bytes tell\n%s and\n%s", was, tell)
			}
		}
		if was, known := texts[tell]; known && was != text {
			t.Fatalf("%q and %q tell the same", was, text)
		}
		tells[text], texts[tell] = tell, text
	}
	if met < 100 || len(tells) < 50 {
		t.Error("too few that are alike, or unlike:", met, len(tells))
	}
}

// R4: memory.

func spoil(list []int) {
	for i := range list {
		list[i] = -7
	}
	_ = append(list, -7)
	_ = append(list[:0], -8)
}

func TestWhatIsHandedInStaysAndIsntKept(t *testing.T) {
	members := make([]int, 4, 20)
	copy(members, []int{0, 1, 2, 3})
	l, _ := ledger.New(api.Conf{Members: members})
	p := &pair{t: t, l: l, m: modelOf(firstMembers(4))}
	spoil(members)
	expectStands(t, p.l, p.m)
	copy(members, []int{0, 1, 2, 3})
	l, _ = ledger.New(api.Conf{Members: members})
	p = &pair{t: t, l: l, m: modelOf(firstMembers(4))}
	p.do(join(1, 1, 4))
	p.do(join(1, 2, 5))
	p.do(leave(1, 3, 0))
	if !slices.Equal(members, []int{0, 1, 2, 3}) || !slices.Equal(members[:6], []int{0, 1, 2, 3, -7, 0}) {
		t.Error("changed", members[:6])
	}
	spoil(members)
	expectStands(t, p.l, p.m)
	p.do(put(1, 4, "k", 1))
	p.turn()
	spoil(members)
	expectStands(t, p.l, p.m)
}

// A key's bytes are the caller's: they may be overwritten behind the call.
func TestKeysArentKept(t *testing.T) {
	for _, kind := range []int{api.OpPut, api.OpAdd, api.OpMax, api.OpGet} {
		p := four(t)
		bytes := []byte("key")
		p.do(put(1, 1, "key", 1))
		p.do(request(1, 2, kind, unsafe.String(&bytes[0], len(bytes)), 0, 0))
		copy(bytes, "xxx")
		expectStands(t, p.l, p.m)
	}
	p := four(t)
	bytes := []byte("key")
	p.l.Do(put(1, 1, unsafe.String(&bytes[0], len(bytes)), 1))
	p.m.do(put(1, 1, "key", 1))
	copy(bytes, "xxx")
	expectStands(t, p.l, p.m)
}

func TestWhatIsAnsweredIsntKept(t *testing.T) {
	p := pairOf(t, 0, 1, 2, 3, 4, 5)
	opened := &pair{t: t, l: expectOpens(t, p.l.Text()), m: p.m.copied()}
	for _, x := range []*pair{p, opened} {
		for i := range 12 {
			x.room().do(request(1, i+1, api.OpJoin+i%2, "", 0, (i*5)%ids))
			spoil(x.l.Conf().Members)
			spoil(x.l.Next())
			expectStands(t, x.l, x.m)
		}
		c, d, n, o := x.l.Conf(), x.l.Conf(), x.l.Next(), x.l.Next()
		spoil(c.Members)
		spoil(n)
		if !slices.Equal(d.Members, x.m.members.list()) || !slices.Equal(o, x.m.next.list()) {
			t.Error("two answers share memory")
		}
	}
	// At first, and behind a turn, the members and those to be are the same, but not the same memory.
	for _, x := range []*pair{four(t), p} {
		for !x.l.Full() {
			x.do(api.Request{})
		}
		x.turn()
		c, n := x.l.Conf(), x.l.Next()
		spoil(c.Members)
		if !slices.Equal(n, x.m.next.list()) {
			t.Error("the members and those to be share memory")
		}
	}
}

// What a copy does changes not the one that was copied, nor the other way round.
func TestCopiesAreApart(t *testing.T) {
	steps := func(l *ledger.Ledger, from int) {
		for i, q := range []api.Request{put(1, from, "k", 5), put(2, from, "new", 5), cut(3, from, "a"), join(4, from, 7), leave(5, from, 1), {}} {
			if l.Full() {
				l.Turn()
			}
			if _, e := l.Do(q); e != api.OK {
				t.Fatal(i, e)
			}
		}
	}
	p := pairOf(t, 0, 1, 2, 3, 4)
	p.do(put(1, 1, "k", 1))
	p.do(put(2, 1, "a", 2))
	p.do(join(3, 1, 9))
	for _, other := range []*ledger.Ledger{p.l.Copy(), expectOpens(t, p.l.Text()), p.l.Copy().Copy()} {
		expectStands(t, other, p.m)
		third := other.Copy()
		steps(other, 100)
		expectStands(t, p.l, p.m)
		expectStands(t, third, p.m)
		if other.Text() == p.l.Text() {
			t.Error("nothing was done")
		}
	}
	copied, was := p.l.Copy(), p.m.copied()
	steps(p.l, 200)
	expectStands(t, copied, was)
}

// R6: asking changes nothing, and what is answered hangs on nothing else.
func TestAskedTwice(t *testing.T) {
	p := sixteen(t)
	for range 50 {
		expectStands(t, p.l, p.m)
		expectOpens(t, p.l.Text())
		p.l.Copy()
	}
}
