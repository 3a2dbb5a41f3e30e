package change_test

import (
	"math"
	"reflect"
	"slices"
	"testing"
	"unsafe"

	"witan/api"
	"witan/change"
)

// R4: memory. R6: the same is answered again.

// quorumOfThree answers three right changes of the view 5 in the epoch 1 of 0, 1, 2, 3, with certificates of three slots.
func quorumOfThree() []api.Change {
	return []api.Change{
		changeOf(1, 0, 5, certOf(1, 0, 5, get("a"), 0, 1, 2), certOf(1, 3, 7, put("b", 2), 1, 2, 3)),
		changeOf(1, 2, 5, certOf(1, 2, 5, put("c", 1), 0, 1, 3)),
		changeOf(1, 3, 5, certOf(1, 3, 7, put("b", 2), 0, 1, 2, 3), certOf(1, 1, 8, join(9), 0, 2, 3)),
	}
}

func picked() []api.Request { return []api.Request{put("c", 1), null(), put("b", 2), join(9)} }

// roomy answers the list of changes with room behind each list, in which something stands.
func roomy(l []api.Change) []api.Change {
	out := append(slices.Clone(l), api.Change{From: 7, View: 7})
	for i, x := range out {
		certs := append(slices.Clone(x.Certs), api.Cert{View: 7, Slot: 7})
		for k, c := range certs {
			certs[k].Sigs = append(slices.Clone(c.Sigs), api.Sig{By: 7, Text: "behind"})[:len(c.Sigs)]
		}
		out[i].Certs = certs[:len(x.Certs)]
	}
	return out[:len(l)]
}

// behind answers all that stands in the lists, and in the room behind them.
func behind(l []api.Change) []api.Change {
	out := slices.Clone(l[:cap(l)])
	for i, x := range out {
		out[i].Certs = slices.Clone(x.Certs[:cap(x.Certs)])
		for k, c := range out[i].Certs {
			out[i].Certs[k].Sigs = slices.Clone(c.Sigs[:cap(c.Sigs)])
		}
	}
	return out
}

// What is handed in is neither changed nor written behind.
func TestListsThatAreHandedInStay(t *testing.T) {
	l := roomy(quorumOfThree())
	want := behind(l)
	members := []int{0, 1, 2, 3, 7, 7, 7}
	c := api.Conf{Epoch: 1, Members: members[:4]}
	for range 3 {
		for _, x := range l {
			expectText(t, "text", 1, x, api.OK)
			expectRight(t, "right", c, x, api.OK)
		}
		expectPick(t, "pick", c, 5, l, picked()...)
		expectNoPick(t, "pick", c, 4, l, api.ErrView)
		expectNoPick(t, "pick", c, 5, l[1:], api.ErrQuorum)
		expectNoPick(t, "pick", c, 5, slices.Concat(l, l), api.ErrOld)
	}
	if !reflect.DeepEqual(behind(l), want) {
		t.Error("changed", short(behind(l)))
	}
	if !slices.Equal(members, []int{0, 1, 2, 3, 7, 7, 7}) {
		t.Error("changed", members)
	}
}

// A change whose real is another NaN stays so.
func TestRealsThatAreHandedInStay(t *testing.T) {
	c := conf(0, 0, 1, 2, 3)
	for _, x := range nans() {
		l := plain(0, 1, 0, 1, 2)
		l[1] = changeOf(0, 1, 1, certOf(0, 0, 1, put("k", x), 0, 1, 2))
		got, _ := change.Pick(c, 1, l)
		if math.Float64bits(l[1].Certs[0].Req.Op.Real) != math.Float64bits(x) {
			t.Errorf("%x is changed", math.Float64bits(x))
		}
		if len(got) != 1 || math.Float64bits(got[0].Op.Real) != oneNaN {
			t.Errorf("%x: %v", math.Float64bits(x), got)
		}
	}
}

// What is answered is the caller's: writing over it, and behind it, changes no list that was handed in, and no other answer.
func TestListsThatAreAnsweredAreNew(t *testing.T) {
	c := conf(1, 0, 1, 2, 3)
	l := roomy(quorumOfThree())
	want := behind(l)
	one, _ := change.Pick(c, 5, l)
	two, _ := change.Pick(c, 5, l)
	_ = append(one, get("spoilt"))
	for i := range one {
		one[i] = get("spoilt")
	}
	if !slices.EqualFunc(two, picked(), isSameRequest) {
		t.Error("two answers share memory", two)
	}
	if !reflect.DeepEqual(behind(l), want) {
		t.Error("changed", short(behind(l)))
	}
	expectPick(t, "again", c, 5, l, picked()...)
}

// What the caller does to the lists behind the call changes nothing that was answered.
func TestListsThatAreHandedInArentKept(t *testing.T) {
	c := conf(1, 0, 1, 2, 3)
	l := quorumOfThree()
	got, _ := change.Pick(c, 5, l)
	text, _ := change.Text(1, l[0])
	for i, x := range l {
		for k, cert := range x.Certs {
			for n := range cert.Sigs {
				cert.Sigs[n] = api.Sig{By: -7, Text: "spoilt"}
			}
			x.Certs[k] = api.Cert{View: -7, Slot: -7, Req: get("spoilt")}
		}
		l[i] = api.Change{From: -7}
	}
	copy(c.Members, []int{9, 9, 9, 9})
	if !slices.EqualFunc(got, picked(), isSameRequest) || text != bytesOf(1, quorumOfThree()[0]) {
		t.Error(got, text)
	}
	expectPick(t, "again", conf(1, 0, 1, 2, 3), 5, quorumOfThree(), picked()...)
}

// borrowed answers a text in bytes that are overwritten when it is told to.
func borrowed(s string) (string, func()) {
	bytes := []byte(s)
	return unsafe.String(&bytes[0], len(bytes)), func() {
		for i := range bytes {
			bytes[i] = 'x'
		}
	}
}

// The bytes of keys and of signatures are the caller's: they may be overwritten behind the call.
func TestTextsThatAreHandedInArentKept(t *testing.T) {
	c := conf(0, 0, 1, 2, 3)
	l := plain(0, 1, 0, 1, 2)
	l[1] = changeOf(0, 1, 1, certOf(0, 0, 1, put("a key", 1), 0, 1, 2))
	want := bytesOf(0, l[1])
	cert := &l[1].Certs[0]
	var overwrites []func()
	lend := func(s *string) {
		lent, overwrite := borrowed(*s)
		*s = lent
		overwrites = append(overwrites, overwrite)
	}
	lend(&cert.Req.Op.Key)
	lend(&l[1].Sig.Text)
	for i := range cert.Sigs {
		lend(&cert.Sigs[i].Text)
	}
	got, e := change.Pick(c, 1, l)
	text, f := change.Text(0, l[1])
	for _, overwrite := range overwrites {
		overwrite()
	}
	if e != api.OK || f != api.OK || len(got) != 1 || !isSameRequest(got[0], put("a key", 1)) || text != want {
		t.Errorf("%v %d %q %d", got, e, text, f)
	}
}

// A list may hold one certificate's memory many times, and the changes one another's.
func TestListsThatShareMemory(t *testing.T) {
	c := conf(1, 0, 1, 2, 3)
	certs := []api.Cert{certOf(1, 0, 5, get("a"), 0, 1, 2), certOf(1, 1, 6, get("b"), 0, 1, 2)}
	certs[1].Sigs = certOf(1, 1, 6, get("b"), 0, 1, 2, 3).Sigs[:3]
	var l []api.Change
	for id := range 4 {
		l = append(l, changeOf(1, id, 2, certs[:1+id%2]...))
	}
	expectPick(t, "shared", c, 2, l, get("a"), get("b"))
	expectPick(t, "shared", c, 2, l, get("a"), get("b"))
}
