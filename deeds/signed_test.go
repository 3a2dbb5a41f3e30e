package deeds_test

import (
	"encoding/binary"
	"math"
	"strings"
	"testing"

	"witan/api"
	"witan/council"
	"witan/deeds"
)

func someNumbers() []int {
	return []int{-1, 0, 1, 2, 3, 255, 256, 65535, 65536, 1<<31 - 1, 1 << 31, lastLong - 1, lastLong, lastLong + 1, lastLong + 2, -lastLong, math.MinInt, math.MaxInt}
}

// P11.1: what is signed.

func TestPreparedWrittenOut(t *testing.T) {
	get := request(2, 3, api.OpGet, "k", 0, 0)
	text := "\x01\x02\x00\x00\x00\x03\x05\x00\x01k\x00\x00\x00\x00\x00\x00\x00\x00\x00"
	if s, e := deeds.Prepared(1, 2, 515, get); s != "\x50\x00\x00\x00\x01\x00\x00\x00\x02\x00\x00\x02\x03"+text || e != api.OK {
		t.Errorf("%q %d", s, e)
	}
	if s, e := deeds.Prepared(0, lastLong, 0, api.Request{}); s != "\x50\x00\x00\x00\x00\xff\xff\xff\xff\x00\x00\x00\x00\x00" || e != api.OK {
		t.Errorf("null: %q %d", s, e)
	}
}

// Each number at each place, with requests that are right, null and neither.
func TestPreparedOfEveryNumbers(t *testing.T) {
	requests := append(rightOnes(), api.Request{}, request(1, 1, api.OpPut, "k", math.Float64frombits(0x7FF0000000000001), 0),
		request(9, 1, api.OpGet, "k", 0, 0), request(1, 1, api.OpGet, "k", minusNought, 0), request(0, 0, 0, "", minusNought, 0), request(1, 1, 8, "k", 0, 0))
	for _, epoch := range someNumbers() {
		for _, view := range someNumbers() {
			for _, slot := range someNumbers() {
				for _, r := range requests {
					s, e := deeds.Prepared(epoch, view, slot, r)
					if want, wantErr := modelPrepared(epoch, view, slot, r); s != want || e != wantErr {
						t.Errorf("Prepared(%d, %d, %d, %s): %.60q %d, not %.60q %d", epoch, view, slot, told(r), s, e, want, wantErr)
					}
				}
			}
		}
	}
}

// Whatever request has a text can be prepared, and no other.
func TestPreparedOfEveryRequest(t *testing.T) {
	for _, kind := range someKinds() {
		for _, key := range someKeys() {
			for _, x := range someReals() {
				for _, id := range someIDs() {
					for _, r := range []api.Request{request(1, 1, kind, key, x, id), request(0, 0, kind, key, x, id), request(8, lastStamp+1, kind, key, x, id)} {
						s, e := deeds.Prepared(7, 8, 9, r)
						if want, wantErr := modelPrepared(7, 8, 9, r); s != want || e != wantErr {
							t.Errorf("%s: %.60q %d", told(r), s, e)
						}
					}
				}
			}
		}
	}
}

func TestStateWrittenOut(t *testing.T) {
	if s, e := deeds.State(66051, "abc"); s != "\x53\x00\x01\x02\x03abc" || e != api.OK {
		t.Errorf("%q %d", s, e)
	}
	if s, e := deeds.State(0, ""); s != "\x53\x00\x00\x00\x00" || e != api.OK {
		t.Errorf("of no bytes: %q %d", s, e)
	}
}

func TestStateOfEveryNumber(t *testing.T) {
	for _, slot := range someNumbers() {
		for _, bytes := range []string{"", "\x00", "a", "S", "\xff\xfe\x80", strings.Repeat("\x00", 255), strings.Repeat("x", 65535), strings.Repeat("y", 65536), strings.Repeat("z", 1<<20)} {
			s, e := deeds.State(slot, bytes)
			if want, wantErr := modelState(slot, bytes); s != want || e != wantErr {
				t.Errorf("State(%d, %d bytes): %d bytes, %d", slot, len(bytes), len(s), e)
			}
		}
	}
}

func TestUnlikeStates(t *testing.T) {
	type state struct {
		slot  int
		bytes string
	}
	byText := map[string]state{}
	for _, slot := range []int{0, 1, 4, 255, 256, 65536, lastLong} {
		for _, bytes := range []string{"", "\x00", "\x00\x00", "\x00\x00\x00\x04", "a", "ab", "b", "L"} {
			s, _ := deeds.State(slot, bytes)
			if other, known := byText[s]; known {
				t.Errorf("%+v has the text of %d, %q", other, slot, bytes)
			}
			byText[s] = state{slot, bytes}
		}
	}
}

// P11.3: what is prepared has another text, if anything of it is another one.

type prepared struct {
	epoch, view, slot int
	request           plain
}

// everyPrepared answers the texts of many things that are prepared, near to one another, each with what it is of.
func everyPrepared(t *testing.T) map[string]prepared {
	requests := append(rightOnes(), api.Request{}, request(1, 1, api.OpPut, "k", 1, 0), request(2, 1, api.OpPut, "k", 1, 0), request(1, 2, api.OpPut, "k", 1, 0),
		request(1, 1, api.OpAdd, "k", 1, 0), request(1, 1, api.OpPut, "kk", 1, 0), request(1, 1, api.OpPut, "k", 2, 0),
		request(1, 1, api.OpPut, "k", 0, 0), request(1, 1, api.OpPut, "k", minusNought, 0), request(1, 1, api.OpPut, "k", math.NaN(), 0),
		request(1, 1, api.OpJoin, "", 0, 1), request(1, 1, api.OpJoin, "", 0, 2), request(1, 1, api.OpLeave, "", 0, 1))
	numbers := []int{0, 1, 2, 3, 60, 67, 80, 83, 255, 256, 65536, 1 << 24, lastLong}
	byText := map[string]prepared{}
	for _, epoch := range numbers {
		for _, view := range numbers {
			for _, slot := range numbers {
				for _, r := range requests {
					s, e := deeds.Prepared(epoch, view, slot, r)
					p := prepared{epoch, view, slot, plainOf(r)}
					if other, known := byText[s]; known && other != p {
						t.Errorf("%+v and %+v have one text", other, p)
					}
					if e != api.OK {
						t.Errorf("%+v: %d", p, e)
					}
					byText[s] = p
				}
			}
		}
	}
	return byText
}

func TestUnlikePrepared(t *testing.T) { everyPrepared(t) }

// Every stamp, client and kind gives what is prepared another text.
func TestUnlikePreparedRequests(t *testing.T) {
	seen := map[string]api.Request{}
	for client := 1; client <= 8; client++ {
		for stamp := 1; stamp <= 300; stamp++ {
			for kind := 1; kind <= 7; kind++ {
				r := request(client, stamp, kind, "k", 0, 0)
				if kind >= 6 {
					r.Op.Key = ""
				}
				s, e := deeds.Prepared(1, 0, 5, r)
				if other, known := seen[s]; known || e != api.OK {
					t.Errorf("%s and %s: %d", told(r), told(other), e)
				}
				seen[s] = r
			}
		}
	}
}

// P11.3: no text of what is prepared is one of anything else.

func TestPreparedIsNoRequest(t *testing.T) {
	for s, p := range everyPrepared(t) {
		if r, e := deeds.Read(s); e != api.ErrBytes {
			t.Errorf("%+v is read as %s", p, told(r))
		}
	}
	for _, r := range append(sameOnes(), rightOnes()...) {
		if s, e := deeds.Text(r); e == api.OK && (s[0] == 80 || s[0] == 83) {
			t.Errorf("%s begins as what is signed: %q", told(r), s)
		}
	}
}

// A state's bytes may be any: they are taken so that but for its first byte its text is the one of what is prepared.
func TestPreparedIsNoState(t *testing.T) {
	for s, p := range everyPrepared(t) {
		slot := int(binary.BigEndian.Uint32([]byte(s[1:])))
		state, e := deeds.State(slot, s[5:])
		if e != api.OK || state == s || state[1:] != s[1:] {
			t.Errorf("%+v: a state has %q %d", p, state, e)
		}
	}
}

func TestPreparedIsNoConfiguration(t *testing.T) {
	texts := everyPrepared(t)
	for s, p := range texts {
		if c, e := council.Read(s); e != api.ErrBytes {
			t.Errorf("%+v is read as %+v", p, c)
		}
	}
	for epoch := range 61 {
		for most := 4; most <= 10; most++ {
			c := api.Conf{Epoch: epoch}
			for id := range most {
				c.Members = append(c.Members, id+16-most)
			}
			s, e := council.Text(c)
			if _, known := texts[s]; known || e != api.OK || s[0] == 80 || s[0] == 83 {
				t.Errorf("%+v: %q %d", c, s, e)
			}
			if r, e := deeds.Read(s); e != api.ErrBytes {
				t.Errorf("%+v is read as %s", c, told(r))
			}
		}
	}
}

// A state's text is no configuration's and no request's either, whatever its bytes are.
func TestStateIsNothingElse(t *testing.T) {
	conf, _ := council.Text(api.Conf{Epoch: 1, Members: []int{0, 1, 2, 3}})
	get, _ := deeds.Text(request(2, 3, api.OpGet, "k", 0, 0))
	prepared, _ := deeds.Prepared(1, 2, 3, api.Request{})
	for _, whole := range []string{conf, get, prepared} {
		for _, bytes := range []string{whole, whole[5:], ""} {
			s, e := deeds.State(int(binary.BigEndian.Uint32([]byte(whole[1:]))), bytes)
			if e != api.OK || s == whole {
				t.Errorf("%q %d", s, e)
			}
			if _, e := council.Read(s); e != api.ErrBytes {
				t.Errorf("%q is a configuration's", s)
			}
			if _, e := deeds.Read(s); e != api.ErrBytes {
				t.Errorf("%q is a request's", s)
			}
		}
	}
}

// R6: what is answered hangs on what is handed in alone, in whatever order the calls come.
func TestOneAnswer(t *testing.T) {
	type answers struct {
		text, prepared, state, result string
		e, f, g, h                    api.Errno
	}
	ask := func(r api.Request) answers {
		var a answers
		a.text, a.e = deeds.Text(r)
		a.prepared, a.f = deeds.Prepared(r.Client, r.Stamp, r.Op.ID, r)
		a.state, a.g = deeds.State(r.Stamp, r.Op.Key)
		a.result, a.h = deeds.ResultText(api.Result{Code: r.Op.ID, Real: r.Op.Real})
		return a
	}
	var first []answers
	all := sameOnes()
	for _, r := range all {
		first = append(first, ask(r))
	}
	for i := len(all) - 1; i >= 0; i-- {
		if got := ask(all[i]); got != first[i] {
			t.Errorf("%s: unlike answers at first and later", told(all[i]))
		}
	}
}
