package lineage_test

import (
	"math"
	"slices"
	"testing"

	"witan/api"
	"witan/lineage"
)

// P10.1: Valid.

func TestValidOfAGoodLink(t *testing.T) {
	old := conf(0, 0, 1, 2, 3)
	expectValid(t, old, signed(conf(1, 0, 1, 2, 3, 4), 0, 1, 3), api.OK)
	expectValid(t, old, signed(conf(1, 0, 1, 2, 3, 4), 0, 1, 2, 3), api.OK)
	expectValid(t, old, signed(conf(1, 0, 1, 2, 3), 1, 2, 3), api.OK)
	expectValid(t, old, signed(conf(1, lastOf(10)...), 0, 2, 3), api.OK) // nobody stays
	expectValid(t, conf(59, lastOf(10)...), signed(conf(60, 0, 1, 2, 3), lastOf(7)...), api.OK)
}

// The quorum is the old members', whoever is one of the new ones, and however many these are.
func TestEverySetOfSigners(t *testing.T) {
	for _, olds := range councils() {
		for _, next := range [][]int{firstOf(4), lastOf(10), spread(7)} {
			old, c := conf(7, olds...), conf(8, next...)
			for set := range 1 << len(olds) {
				list := chosen(olds, set)
				want := api.ErrQuorum
				if len(list) >= quorums()[len(olds)] {
					want = api.OK
				}
				expectValid(t, old, signed(c, list...), want)
			}
		}
	}
}

// Every set out of all sixteen: one signature by nobody of the old members spoils all the others.
func TestEverySetOfReplicasAsSigners(t *testing.T) {
	old, c := conf(3, 1, 4, 9, 12, 15), conf(4, 0, 1, 4, 9, 12, 15)
	for set := range 1 << ids {
		l := signed(c, chosen(firstOf(ids), set)...)
		expectValid(t, old, l, modelValid(old, l))
	}
}

// Behind each epoch just the next one.
func TestValidOfEveryEpoch(t *testing.T) {
	for old := -1; old <= lastEpoch+1; old++ {
		for next := -1; next <= lastEpoch+2; next++ {
			want := api.ErrEpoch
			if next == old+1 {
				want = api.OK
			}
			if old < 0 || old > lastEpoch || next < 0 || next > lastEpoch {
				want = api.ErrArg
			}
			expectValid(t, conf(old, 0, 1, 2, 3), signed(conf(next, 0, 1, 2, 3, 4), 0, 1, 2, 3), want)
		}
	}
}

func TestValidOfFarEpochs(t *testing.T) {
	for _, epoch := range farEpochs() {
		expectValid(t, conf(0, 0, 1, 2, 3), signed(conf(epoch, 0, 1, 2, 3), 0, 1, 2), api.ErrArg)
		expectValid(t, conf(epoch, 0, 1, 2, 3), signed(conf(1, 0, 1, 2, 3), 0, 1, 2), api.ErrArg)
		expectValid(t, conf(epoch, 0, 1, 2, 3), signed(conf(epoch+1, 0, 1, 2, 3), 0, 1, 2), api.ErrArg) // past the greatest int stands the least one
	}
}

func TestValidOfWrongConfigurations(t *testing.T) {
	good, next := conf(4, 0, 1, 2, 3), conf(5, 0, 1, 2, 3, 4)
	for name, c := range wrongConfs(5) {
		for what, l := range map[string]api.Link{"signed": signed(c, 0, 1, 2), "by all": signed(c, 0, 1, 2, 3), "bare": {Conf: c}} {
			if e := lineage.Valid(good, l); e != api.ErrArg {
				t.Errorf("%s, %s: %d", name, what, e)
			}
		}
	}
	for name, c := range wrongConfs(4) {
		for _, l := range []api.Link{signed(next, 0, 1, 2), signed(next, c.Members...), {Conf: next}, {}} {
			if e := lineage.Valid(c, l); e != api.ErrArg {
				t.Errorf("%s: %d", name, e)
			}
		}
		for other, d := range wrongConfs(5) {
			if e := lineage.Valid(c, api.Link{Conf: d}); e != api.ErrArg {
				t.Errorf("%s, and %s: %d", name, other, e)
			}
		}
	}
	expectValid(t, api.Conf{}, api.Link{}, api.ErrArg)
}

// wrongSigs answers lists that are no proof of the text for the members 1, 4, 9, 12 and 15.
func wrongSigs(next api.Conf) map[string][]api.Sig {
	s := text(next)
	amid := by(s, 1, 4, 9, 12, 15)
	amid[2].Text = s + "\x00"
	odd := by(s, 1, 4, 9, 12)
	odd[3].By = 3
	lists := map[string][]api.Sig{
		"none":                  nil,
		"none, of room":         make([]api.Sig, 0, 8),
		"one":                   by(s, 1),
		"too few":               by(s, 1, 4, 9),
		"one twice":             by(s, 1, 4, 9, 9),
		"a quorum, one twice":   by(s, 1, 1, 4, 9, 12),
		"the last one twice":    by(s, 1, 4, 9, 12, 12),
		"falling":               by(s, 15, 12, 9, 4, 1),
		"two turned, first":     by(s, 4, 1, 9, 12),
		"two turned, last":      by(s, 1, 4, 12, 9),
		"no member":             odd,
		"a new member":          by(s, 0, 1, 4, 9),
		"a quorum and a new":    by(s, 0, 1, 4, 9, 12),
		"a quorum and a client": by(s, 1, 4, 9, 12, 101),
		"a quorum and -1":       by(s, -1, 1, 4, 9, 12),
		"a quorum and 16":       by(s, 1, 4, 9, 12, 16),
		"the least int":         by(s, math.MinInt, 1, 4, 9, 12),
		"the greatest int":      by(s, 1, 4, 9, 12, math.MaxInt),
		"one of another text":   amid,
		"seventeen":             append(by(s, 1, 4, 9, 12), by(s, slices.Repeat([]int{15}, 13)...)...),
		"all sixteen":           by(s, firstOf(16)...),
		"very many":             slices.Repeat(by(s, 1, 4, 9, 12, 15), 20000),
	}
	for name, other := range otherTexts(next) {
		lists["of "+name] = by(other, 1, 4, 9, 12, 15)
	}
	return lists
}

// otherTexts answers texts that aren't the configuration's own, however near they are.
func otherTexts(c api.Conf) map[string]string {
	s := text(c)
	return map[string]string{
		"no text":           "",
		"a text cut short":  s[:len(s)-1],
		"a text and a byte": s + "\x00",
		"the epoch before":  text(conf(c.Epoch-1, c.Members...)),
		"the epoch behind":  text(conf(c.Epoch+1, c.Members...)),
		"a member fewer":    text(conf(c.Epoch, c.Members[1:]...)),
		"a member more":     text(conf(c.Epoch, append(slices.Clone(c.Members[:2]), lastOf(4)...)...)),
		"another mark":      "P" + s[1:],
		"members turned":    s[:4] + s[5:6] + s[4:5] + s[6:],
	}
}

func TestValidOfWrongSignatures(t *testing.T) {
	old, next := conf(6, 1, 4, 9, 12, 15), conf(7, 0, 1, 4, 9, 12, 15)
	expectValid(t, old, api.Link{Conf: next, Sigs: by(text(next), 1, 4, 9, 12)}, api.OK)
	for name, sigs := range wrongSigs(next) {
		if e := lineage.Valid(old, api.Link{Conf: next, Sigs: sigs}); e != api.ErrQuorum {
			t.Errorf("%s: %d", name, e)
		}
	}
}

// A quorum of the new members is none of the old ones.
func TestTheOldMembersSign(t *testing.T) {
	old, next := conf(0, 0, 1, 2, 3), conf(1, 4, 5, 6, 7)
	expectValid(t, old, signed(next, 4, 5, 6, 7), api.ErrQuorum)
	expectValid(t, old, signed(next, 0, 1, 2), api.OK)
	expectValid(t, old, signed(next, 0, 1, 2, 4), api.ErrQuorum)
	expectValid(t, old, signed(next, 0, 1, 4, 5), api.ErrQuorum)
}

// What was signed is the new configuration, not the one that signs.
func TestTheNewConfigurationIsSigned(t *testing.T) {
	old, next := conf(0, 0, 1, 2, 3), conf(1, 0, 1, 2, 3, 4)
	expectValid(t, old, api.Link{Conf: next, Sigs: by(text(old), 0, 1, 2, 3)}, api.ErrQuorum)
	same := conf(1, 0, 1, 2, 3)
	expectValid(t, old, api.Link{Conf: same, Sigs: by(text(old), 0, 1, 2, 3)}, api.ErrQuorum)
	expectValid(t, old, api.Link{Conf: same, Sigs: by(text(same), 0, 1, 2, 3)}, api.OK)
}

// R1: of several errors the first one.
func TestValidsFirstError(t *testing.T) {
	old, next, later := conf(2, 0, 1, 2, 3), conf(3, 0, 1, 2, 3), conf(5, 0, 1, 2, 3)
	wrongNext, wrongLater := conf(3, 3, 2, 1, 0), conf(5, 3, 2, 1, 0)
	wrongOld := conf(2, 0, 1, 2)
	for _, sigs := range [][]int{{0, 1, 2}, {0, 1}, nil} {
		expectValid(t, wrongOld, signed(next, sigs...), api.ErrArg)
		expectValid(t, wrongOld, signed(later, sigs...), api.ErrArg)
		expectValid(t, old, signed(wrongNext, sigs...), api.ErrArg)
		expectValid(t, old, signed(wrongLater, sigs...), api.ErrArg)
		expectValid(t, wrongOld, signed(wrongLater, sigs...), api.ErrArg)
		expectValid(t, old, signed(later, sigs...), api.ErrEpoch)
		expectValid(t, old, signed(old, sigs...), api.ErrEpoch)
	}
	expectValid(t, old, signed(next, 0, 1), api.ErrQuorum)
	expectValid(t, old, api.Link{Conf: next, Sigs: by("x", 9, 9, 1)}, api.ErrQuorum)
}

// R4, R6: what is handed in stays as it was, and what is asked twice is answered twice alike.
func TestValidChangesNothing(t *testing.T) {
	old, next := conf(6, 1, 4, 9, 12, 15), conf(7, 0, 1, 4, 9, 12, 15)
	lists := wrongSigs(next)
	lists["a proof"] = by(text(next), 1, 4, 9, 12)
	for name, sigs := range lists {
		l := api.Link{Conf: conf(7, next.Members...), Sigs: slices.Clone(sigs)}
		one := lineage.Valid(old, l)
		if !sameLink(l, api.Link{Conf: next, Sigs: sigs}) || !sameConf(old, conf(6, 1, 4, 9, 12, 15)) {
			t.Errorf("%s: changed", name)
		}
		if two := lineage.Valid(old, l); one != two {
			t.Errorf("%s: %d, then %d", name, one, two)
		}
	}
}

// What stands behind the ends of the lists that are handed in counts for nothing, and stays.
func TestRoomBehindTheListsIsLeft(t *testing.T) {
	members, c := firstOf(10), conf(1, 0, 1, 2, 3)
	sigs := by(text(c), firstOf(10)...)
	old := api.Conf{Members: members[:4]}
	expectValid(t, old, api.Link{Conf: c, Sigs: sigs[:3]}, api.OK)
	expectValid(t, old, api.Link{Conf: c, Sigs: sigs[:2]}, api.ErrQuorum)
	x := tracker(t, old, []api.Link{{Conf: c, Sigs: sigs[:3]}})
	second := signed(conf(2, 0, 1, 2, 3, 4), 0, 1, 2)
	expectAdd(t, x, second, api.OK)
	if !slices.Equal(members, firstOf(10)) || !slices.Equal(sigs, by(text(c), firstOf(10)...)) {
		t.Error(members, sigs)
	}
	expectKnown(t, x, conf(0, 0, 1, 2, 3), []api.Link{signed(c, 0, 1, 2), second})
}
