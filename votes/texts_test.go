package votes_test

import (
	"slices"
	"testing"

	"witan/api"
	"witan/council"
	"witan/deeds"
	"witan/votes"
)

// P15.1: what is signed.

func expectTexts(t *testing.T, c api.Conf, text string, next []int, state, after string) {
	t.Helper()
	gotState, gotConf, e := votes.Texts(c, text, next)
	if gotState != state || gotConf != after || e != api.OK {
		t.Errorf("Texts(%v, %s, %v): %.40q %q %d, not %.40q %q", c, short(text), next, gotState, gotConf, e, state, after)
	}
}

func expectNoTexts(t *testing.T, c api.Conf, text string, next []int) {
	t.Helper()
	if state, after, e := votes.Texts(c, text, next); state != "" || after != "" || e != api.ErrArg {
		t.Errorf("Texts(%s, %s, %s): %.40q %q %d", short(c), short(text), short(next), state, after, e)
	}
}

// Byte by byte.
func TestTextsWrittenOut(t *testing.T) {
	expectTexts(t, conf(0, 0, 1, 2, 3), "x", []int{0, 1, 2, 3}, "S\x00\x00\x00\x04x", "C\x00\x01\x04\x00\x01\x02\x03")
	expectTexts(t, conf(2, 0, 1, 2, 3), "st", []int{0, 1, 2, 3, 9}, "S\x00\x00\x00\x0cst", "C\x00\x03\x05\x00\x01\x02\x03\x09")
	expectTexts(t, conf(59, 4, 5, 6, 7), "\x00", []int{12, 13, 14, 15}, "S\x00\x00\x00\xf0\x00", "C\x00\x3c\x04\x0c\x0d\x0e\x0f")
}

func TestTextsOfEachEpoch(t *testing.T) {
	for epoch := range lastEpoch {
		c := conf(epoch, spread(4+epoch%7)...)
		for _, text := range states() {
			expectTexts(t, c, text, []int{1, 2, 3, 4}, stateText(epoch, text), confText(epoch+1, []int{1, 2, 3, 4}))
		}
		for _, next := range append(nexts(), c.Members) {
			expectTexts(t, c, "st", next, stateText(epoch, "st"), confText(epoch+1, next))
		}
	}
}

// They are the texts of the layers 11 and 7.
func TestTextsAreThoseOfTheLayersBelow(t *testing.T) {
	for _, c := range someConfs() {
		for i, text := range states() {
			next := nexts()[i%len(nexts())]
			state, e := deeds.State(api.Interval*(c.Epoch+1), text)
			after, f := council.Text(api.Conf{Epoch: c.Epoch + 1, Members: next})
			if e != api.OK || f != api.OK {
				t.Fatal(e, f)
			}
			expectTexts(t, c, text, next, state, after)
		}
	}
}

func TestTextsOfWrongConfigurations(t *testing.T) {
	for name, c := range wrongConfs() {
		t.Run(name, func(t *testing.T) {
			expectNoTexts(t, c, "st", []int{0, 1, 2, 3})
			expectNoTexts(t, c, "st", c.Members)
			expectNoTexts(t, c, "", []int{0, 1, 2, 3})
			expectNoTexts(t, c, "", nil)
		})
	}
}

func TestTextsOfWrongNextMembers(t *testing.T) {
	for name, next := range wrongMembers() {
		t.Run(name, func(t *testing.T) {
			for _, c := range append(someConfs(), conf(lastEpoch, 0, 1, 2, 3)) {
				expectNoTexts(t, c, "st", next)
				expectNoTexts(t, c, "", next)
			}
		})
	}
}

func TestTextsOfEmptyBytes(t *testing.T) {
	for _, c := range someConfs() {
		for _, next := range nexts() {
			expectNoTexts(t, c, "", next)
		}
	}
}

// Behind the last epoch comes none.
func TestTextsOfTheLastEpoch(t *testing.T) {
	for n := least; n <= most; n++ {
		for _, next := range nexts() {
			expectNoTexts(t, conf(lastEpoch, spread(n)...), "st", next)
			expectTexts(t, conf(lastEpoch-1, spread(n)...), "st", next, stateText(59, "st"), confText(60, next))
		}
	}
}

// Unlike votes have unlike texts; no state's text is a configuration's.
func TestUnlikeVotesHaveUnlikeTexts(t *testing.T) {
	type both struct{ state, after string }
	seen := map[both]bool{}
	for _, epoch := range []int{0, 1, 2, 30, 59} {
		for _, text := range states() {
			for _, next := range nexts() {
				state, after, _ := votes.Texts(conf(epoch, 0, 1, 2, 3), text, next)
				if seen[both{state, after}] || state == after {
					t.Errorf("%d %.40q %v", epoch, text, next)
				}
				seen[both{state, after}] = true
			}
		}
	}
}

// R4, R6: lists stay as they were, and the same is answered again.
func TestTextsLeaveTheLists(t *testing.T) {
	room := []int{0, 1, 2, 3, 9, 7, 7, 7}
	members, next := room[:4], slices.Clone(room)[:5]
	for range 3 {
		expectTexts(t, api.Conf{Epoch: 2, Members: members}, "st", next, "S\x00\x00\x00\x0cst", "C\x00\x03\x05\x00\x01\x02\x03\x09")
	}
	want := []int{0, 1, 2, 3, 9, 7, 7, 7}
	if !slices.Equal(room, want) || !slices.Equal(next[:8], want) {
		t.Error(room, next[:8])
	}
	expectTexts(t, api.Conf{Epoch: 2, Members: members}, "st", members, "S\x00\x00\x00\x0cst", "C\x00\x03\x04\x00\x01\x02\x03")
}

// Answers are texts of their own: the bytes that were handed in may be overwritten.
func TestTextsKeepNoBytes(t *testing.T) {
	text, overwrite := borrowed("a state")
	state, after, e := votes.Texts(conf(2, 0, 1, 2, 3), text, []int{0, 1, 2, 3})
	overwrite()
	if state != "S\x00\x00\x00\x0ca state" || after != "C\x00\x03\x04\x00\x01\x02\x03" || e != api.OK {
		t.Errorf("%q %q %d", state, after, e)
	}
}
