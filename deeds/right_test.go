package deeds_test

import (
	"math"
	"testing"

	"witan/api"
	"witan/deeds"
)

// P11.1: which requests are right, and which one is null.

func TestRightOnesAreRight(t *testing.T) {
	for _, r := range rightOnes() {
		if !deeds.Right(r) || deeds.Null(r) || !deeds.Same(r, r) {
			t.Errorf("%s: right %v, null %v, the same as itself %v", told(r), deeds.Right(r), deeds.Null(r), deeds.Same(r, r))
		}
		expectRequest(t, r)
	}
}

func TestTheNullRequest(t *testing.T) {
	r := api.Request{}
	if deeds.Right(r) || !deeds.Null(r) || !deeds.Same(r, r) {
		t.Errorf("right %v, null %v, the same as itself %v", deeds.Right(r), deeds.Null(r), deeds.Same(r, r))
	}
}

// What is null but for one field is neither null nor right, and has no text.
func TestNullButForOneField(t *testing.T) {
	var others []api.Request
	for _, n := range []int{-1, 1, 2, 5, 6, 255, 256, 1 << 32, math.MinInt, math.MaxInt} {
		others = append(others, request(n, 0, 0, "", 0, 0), request(0, n, 0, "", 0, 0), request(0, 0, n, "", 0, 0), request(0, 0, 0, "", 0, n))
	}
	for _, key := range someKeys()[1:] {
		others = append(others, request(0, 0, 0, key, 0, 0))
	}
	for _, x := range edgeReals()[1:] {
		others = append(others, request(0, 0, 0, "", x, 0))
	}
	for _, r := range others {
		if deeds.Null(r) || deeds.Right(r) || deeds.Same(r, r) || deeds.Same(r, api.Request{}) || deeds.Same(api.Request{}, r) {
			t.Errorf("%s is taken for a request", told(r))
		}
		if s, e := deeds.Text(r); s != "" || e != api.ErrArg {
			t.Errorf("Text(%s): %.60q %d", told(r), s, e)
		}
	}
}

// Each kind with each key's length, whether its real has bits or not, and each ID.
func TestEveryKindKeyRealAndID(t *testing.T) {
	for kind := -2; kind <= 20; kind++ {
		for size := range 20 {
			key := "abcdefghijklmnopqrstuvwxyz"[:size]
			for id := -2; id <= 18; id++ {
				for _, x := range []float64{0, minusNought, 1, math.NaN()} {
					expectRequest(t, request(6, 77, kind, key, x, id))
				}
			}
		}
	}
}

// Each edge of each field with each edge of all others.
func TestEveryMixOfEdges(t *testing.T) {
	for _, kind := range someKinds() {
		for _, key := range someKeys() {
			for _, x := range someReals() {
				for _, id := range someIDs() {
					expectRequest(t, request(1, 1, kind, key, x, id))
					expectRequest(t, request(0, 0, kind, key, x, id))
				}
			}
		}
	}
	ops := []api.Op{{}, {Kind: 8, Key: "k"}, {Kind: api.OpPut}, {Kind: api.OpJoin, ID: 16}}
	for _, r := range rightOnes() {
		ops = append(ops, r.Op)
	}
	for _, client := range someClients() {
		for _, stamp := range someStamps() {
			for _, o := range ops {
				expectRequest(t, api.Request{Client: client, Stamp: stamp, Op: o})
			}
		}
	}
}

// A right request of each kind with one field changed, by whatever it may be changed to.
func TestOneFieldChanged(t *testing.T) {
	for _, r := range rightOnes() {
		for _, n := range someClients() {
			other := r
			other.Client = n
			expectRequest(t, other)
		}
		for _, n := range someStamps() {
			other := r
			other.Stamp = n
			expectRequest(t, other)
		}
		for _, n := range someKinds() {
			other := r
			other.Op.Kind = n
			expectRequest(t, other)
		}
		for _, key := range someKeys() {
			other := r
			other.Op.Key = key
			expectRequest(t, other)
		}
		for _, x := range edgeReals() {
			other := r
			other.Op.Real = x
			expectRequest(t, other)
		}
		for _, n := range someIDs() {
			other := r
			other.Op.ID = n
			expectRequest(t, other)
		}
	}
}

// Where a real may stand any may; where its bits must be 0 just plus nought may.
func TestWhereARealMayStand(t *testing.T) {
	for _, x := range edgeReals() {
		for kind := 1; kind <= 3; kind++ {
			if !deeds.Right(request(1, 1, kind, "k", x, 0)) {
				t.Errorf("kind %d: %x isn't right", kind, math.Float64bits(x))
			}
		}
		nought := math.Float64bits(x) == 0
		for _, r := range []api.Request{request(1, 1, 4, "k", x, 0), request(1, 1, 5, "k", x, 0), request(1, 1, 6, "", x, 3), request(1, 1, 7, "", x, 3)} {
			if deeds.Right(r) != nought {
				t.Errorf("kind %d: %x: right %v", r.Op.Kind, math.Float64bits(x), !nought)
			}
		}
	}
}

// A key's bytes may be any: it isn't a text of letters.
func TestKeysOfAnyBytes(t *testing.T) {
	for a := range 256 {
		expectRequest(t, request(1, 1, api.OpGet, string([]byte{byte(a)}), 0, 0))
		for b := range 256 {
			expectRequest(t, request(1, 1, api.OpPut, string([]byte{byte(a), byte(b)}), 2, 0))
		}
	}
	for _, key := range []string{"ééééé" + "éééé"[:6], "éééééééé", "ééééééééé", "日本語日本", "日本語日本語"} {
		r := request(1, 1, api.OpPut, key, 2, 0)
		if deeds.Right(r) != (len(key) <= 16) {
			t.Errorf("%q of %d bytes: right %v", key, len(key), deeds.Right(r))
		}
		expectRequest(t, r)
	}
}

func TestEveryStamp(t *testing.T) {
	for stamp := -3; stamp <= lastStamp+3; stamp++ {
		r := request(1+stamp&7, stamp, api.OpGet, "k", 0, 0)
		if got, want := deeds.Right(r), stamp >= 1 && stamp <= lastStamp; got != want {
			t.Fatalf("stamp %d: right %v", stamp, got)
		}
		s, e := deeds.Text(r)
		if want, wantErr := modelText(r); s != want || e != wantErr {
			t.Fatalf("stamp %d: %q %d", stamp, s, e)
		}
	}
}

// P11.1: Same.

// sameOnes answers requests that are right, null and neither, of which many differ in one field alone.
func sameOnes() []api.Request {
	all := append(rightOnes(), api.Request{}, request(0, 0, 0, "", minusNought, 0), request(1, 0, 0, "", 0, 0), request(1, 1, 0, "", 0, 0), request(1, 1, 6, "", 0, 16))
	for _, x := range someReals() {
		all = append(all, request(1, 1, api.OpPut, "k", x, 0), request(1, 1, api.OpGet, "k", x, 0))
	}
	for _, key := range someKeys() {
		all = append(all, request(1, 1, api.OpPut, key, 1, 0))
	}
	for kind := range 9 {
		all = append(all, request(1, 1, kind, "k", 0, 0), request(1, 1, kind, "", 0, 0))
	}
	for n := -1; n <= 16; n++ {
		all = append(all, request(n, 1, api.OpGet, "k", 0, 0), request(1, n, api.OpGet, "k", 0, 0), request(1, 1, api.OpJoin, "", 0, n))
	}
	return all
}

func TestSameOfEveryTwo(t *testing.T) {
	all := sameOnes()
	for _, a := range all {
		for _, b := range all {
			if got, want := deeds.Same(a, b), modelSame(a, b); got != want {
				t.Errorf("Same(%s, %s): %v", told(a), told(b), got)
			}
		}
	}
}

// A NaN is the same as any other, and no nought as the other one.
func TestSameByBits(t *testing.T) {
	for _, x := range edgeReals() {
		for _, y := range edgeReals() {
			a, b := request(2, 5, api.OpAdd, "k", x, 0), request(2, 5, api.OpAdd, "k", y, 0)
			if got, want := deeds.Same(a, b), modelBits(x) == modelBits(y); got != want {
				t.Errorf("Same of the reals %x and %x: %v", math.Float64bits(x), math.Float64bits(y), got)
			}
		}
	}
}

// What is neither right nor null is the same as nothing, not even as itself.
func TestSameOfWrongOnes(t *testing.T) {
	for _, r := range []api.Request{request(9, 1, 5, "k", 0, 0), request(1, 0, 5, "k", 0, 0), request(1, 1, 5, "", 0, 0), request(1, 1, 8, "k", 0, 0), request(0, 0, 0, "k", 0, 0)} {
		for _, other := range append(rightOnes(), r, api.Request{}) {
			if deeds.Same(r, other) || deeds.Same(other, r) {
				t.Errorf("%s is the same as %s", told(r), told(other))
			}
		}
	}
}
