package saga_test

import (
	"math"
	"math/rand"
	"slices"
	"testing"

	"witan/api"
	"witan/saga"
)

// P22.1, Merge: the requests slot by slot, and each error alone and in its order.

// expectMerge holds that Merge answers these, in new memory, however the histories stand in their list.
func expectMerge(t *testing.T, histories [][]api.Entry, log []api.Request, e api.Errno) {
	t.Helper()
	backwards := slices.Clone(histories)
	slices.Reverse(backwards)
	for _, list := range [][][]api.Entry{histories, backwards} {
		handed := clone(list)
		var l loan
		l.lend(&handed)
		got, err := saga.Merge(handed)
		if tell(handed) != tell(list) {
			t.Fatal("what was handed in was changed")
		}
		l.spoil()
		if tell(got) != tell(log) || err != e {
			t.Fatalf("of %v: %v %d, asked %v %d", list, got, err, log, e)
		}
		spoil(&got)
	}
}

func TestMergeOfNothing(t *testing.T) {
	expectMerge(t, nil, nil, api.OK)
	expectMerge(t, [][]api.Entry{}, nil, api.OK)
	expectMerge(t, [][]api.Entry{nil}, nil, api.OK)
	expectMerge(t, [][]api.Entry{{}, nil, {}}, nil, api.OK)
}

func TestMergeOfOne(t *testing.T) {
	log := rising(2, put("k", 1), join(4), get("k"), leave(4), add("k", -2.5))
	for n := range len(log) + 1 {
		expectMerge(t, [][]api.Entry{history(1, log[:n]...)}, log[:n], api.OK)
	}
	list := history(1, log...)
	slices.Reverse(list)
	expectMerge(t, [][]api.Entry{list}, log, api.OK)
	expectMerge(t, [][]api.Entry{slices.Concat(list, list, list)}, log, api.OK)
	expectMerge(t, [][]api.Entry{nil, list, {}}, log, api.OK)
}

func TestMergeOfMany(t *testing.T) {
	log := slices.Concat(rising(1, put("a", 1), put("b", 2), join(9)), nulls(2), rising(8, leave(9), get("a")), nulls(1))
	expectMerge(t, [][]api.Entry{history(1, log[:3]...), history(4, log[3:]...)}, log, api.OK)
	expectMerge(t, [][]api.Entry{history(1, log[:5]...), history(3, log[2:]...)}, log, api.OK)
	expectMerge(t, [][]api.Entry{history(3, log[2:4]...), history(1, log...), history(8, log[7])}, log, api.OK)
	expectMerge(t, [][]api.Entry{history(2, log[1:]...), nil, history(1, log[0])}, log, api.OK)
	var single [][]api.Entry
	for i, q := range log {
		single = append(single, history(i+1, q))
	}
	expectMerge(t, single, log, api.OK)
}

// A slot whose request is null is there; a log may be of nothing else.
func TestMergeOfNullRequests(t *testing.T) {
	for n := 1; n < 6; n++ {
		expectMerge(t, [][]api.Entry{history(1, nulls(n)...)}, nulls(n), api.OK)
	}
	q := request(1, 1, put("k", 1))
	expectMerge(t, [][]api.Entry{history(1, null(), q)}, []api.Request{null(), q}, api.OK)
	expectMerge(t, [][]api.Entry{history(1, q, null())}, []api.Request{q, null()}, api.OK)
	expectMerge(t, [][]api.Entry{history(1, q), history(1, null())}, nil, api.ErrOther)
}

// All slots that there may be, and each left out.
func TestMergeOfAllSlots(t *testing.T) {
	log := anyLog(rand.New(rand.NewSource(1)), maxSlot)
	want := slices.Clone(log)
	for i, q := range want {
		want[i] = canonOf(q)
	}
	list := history(1, log...)
	expectMerge(t, [][]api.Entry{list}, want, api.OK)
	for _, n := range []int{1, 100, 240, 243} {
		expectMerge(t, [][]api.Entry{list[:n-1], list[n:]}, nil, api.ErrAbsent)
		expectMerge(t, [][]api.Entry{list[:n-1], list[n-1:]}, want, api.OK)
	}
	expectMerge(t, [][]api.Entry{list[:maxSlot-1]}, want[:maxSlot-1], api.OK)
	expectMerge(t, [][]api.Entry{list, history(maxSlot+1, null())}, nil, api.ErrSlot)
}

// Requests that are alike but for a NaN's bits are the same; what is answered has the one NaN's. The two noughts are unlike.
func TestMergeOfReals(t *testing.T) {
	want := []api.Request{request(1, 1, put("k", nanOf(0x7FF8000000000000)))}
	for _, bits := range []uint64{0x7FF8000000000000, 0x7FF8000000000001, 0xFFF8000000000000, 0x7FF0000000000001, 0xFFFFFFFFFFFFFFFF} {
		one := history(1, request(1, 1, put("k", nanOf(bits))))
		other := history(1, request(1, 1, put("k", nanOf(0xFFF4000000000000))))
		expectMerge(t, [][]api.Entry{one}, want, api.OK)
		expectMerge(t, [][]api.Entry{one, other}, want, api.OK)
		expectMerge(t, [][]api.Entry{slices.Concat(one, other)}, want, api.OK)
		expectMerge(t, [][]api.Entry{one, history(1, request(1, 1, put("k", nanOf(0x7FF0000000000000))))}, nil, api.ErrOther)
	}
	nought, minus := request(1, 1, put("k", 0)), request(1, 1, put("k", minusNought()))
	expectMerge(t, [][]api.Entry{history(1, nought)}, []api.Request{nought}, api.OK)
	expectMerge(t, [][]api.Entry{history(1, minus)}, []api.Request{minus}, api.OK)
	expectMerge(t, [][]api.Entry{history(1, nought), history(1, minus)}, nil, api.ErrOther)
}

func TestMergeOfWrongRequests(t *testing.T) {
	right := history(1, rising(1, put("k", 1), put("k", 2), put("k", 3))...)
	for _, q := range wrongRequests() {
		expectMerge(t, [][]api.Entry{history(1, q)}, nil, api.ErrArg)
		expectMerge(t, [][]api.Entry{right, history(4, q)}, nil, api.ErrArg)
		for i := range right {
			list := slices.Clone(right)
			list[i].Req = q
			expectMerge(t, [][]api.Entry{list}, nil, api.ErrArg)
			expectMerge(t, [][]api.Entry{nil, right, list}, nil, api.ErrArg)
		}
	}
}

func TestMergeOfWrongSlots(t *testing.T) {
	log := rising(1, put("k", 1), put("k", 2))
	for _, slot := range []int{0, -1, -2, -244, 245, 246, 489, 1 << 32, 1<<32 + 3, math.MaxInt, math.MinInt, math.MinInt + 3} {
		expectMerge(t, [][]api.Entry{history(slot, log[0])}, nil, api.ErrSlot)
		expectMerge(t, [][]api.Entry{history(1, log...), history(slot, null())}, nil, api.ErrSlot)
		expectMerge(t, [][]api.Entry{slices.Concat(history(slot, log[0]), history(1, log...))}, nil, api.ErrSlot)
	}
}

func TestMergeOfUnlikeRequests(t *testing.T) {
	q := request(2, 5, put("key", 1.5))
	for _, other := range []api.Request{
		request(3, 5, put("key", 1.5)),
		request(2, 6, put("key", 1.5)),
		request(2, 5, add("key", 1.5)),
		request(2, 5, put("kez", 1.5)),
		request(2, 5, put("keyy", 1.5)),
		request(2, 5, put("key", 1.25)),
		request(2, 5, join(5)),
		null(),
	} {
		for slot := 1; slot < 6; slot++ {
			before := history(1, nulls(slot-1)...)
			expectMerge(t, [][]api.Entry{before, history(slot, q), history(slot, other)}, nil, api.ErrOther)
			expectMerge(t, [][]api.Entry{slices.Concat(history(slot, q), before, history(slot, q, q), history(slot, other))}, nil, api.ErrOther)
			expectMerge(t, [][]api.Entry{before, history(slot, q), history(slot+1, other)}, slices.Concat(nulls(slot-1), []api.Request{q, other}), api.OK)
		}
	}
	expectMerge(t, [][]api.Entry{history(1, request(1, 1, join(4))), history(1, request(1, 1, join(5)))}, nil, api.ErrOther)
}

func TestMergeWhereOneIsMissing(t *testing.T) {
	log := rising(1, put("k", 1), put("k", 2), put("k", 3), put("k", 4))
	list := history(1, log...)
	for i := range list {
		without := slices.Delete(slices.Clone(list), i, i+1)
		if i == len(list)-1 {
			expectMerge(t, [][]api.Entry{without}, log[:i], api.OK)
			continue
		}
		expectMerge(t, [][]api.Entry{without}, nil, api.ErrAbsent)
		expectMerge(t, [][]api.Entry{without[:i], without[i:], without}, nil, api.ErrAbsent)
	}
	expectMerge(t, [][]api.Entry{history(2, log[0])}, nil, api.ErrAbsent)
	expectMerge(t, [][]api.Entry{history(maxSlot, null())}, nil, api.ErrAbsent)
	expectMerge(t, [][]api.Entry{list, history(6, null())}, nil, api.ErrAbsent)
}

// R1: where several are wrong, the first error that the chapter names, wherever each stands.
func TestMergeErrorsInOrder(t *testing.T) {
	wrong := history(1, wrongRequests()[0])
	beyond := history(maxSlot+1, null())
	unlike := []api.Entry{{Slot: 1}, {Slot: 1, Req: request(1, 1, put("k", 1))}}
	missing := history(3, null())
	faults := [][]api.Entry{wrong, beyond, unlike, missing}
	errors := []api.Errno{api.ErrArg, api.ErrSlot, api.ErrOther, api.ErrAbsent}
	for i, one := range faults {
		expectMerge(t, [][]api.Entry{one}, nil, errors[i])
		for j, other := range faults {
			first := errors[min(i, j)]
			expectMerge(t, [][]api.Entry{one, other}, nil, first)
			expectMerge(t, [][]api.Entry{slices.Concat(one, other)}, nil, first)
			expectMerge(t, [][]api.Entry{nil, history(1, null()), other, one, missing}, nil, first)
		}
	}
	for _, slot := range []int{0, -5, 245} { // of one and the same entry
		expectMerge(t, [][]api.Entry{{{Slot: slot, Req: wrong[0].Req}}}, nil, api.ErrArg)
	}
	expectMerge(t, [][]api.Entry{{{Slot: 245, Req: unlike[1].Req}, {Slot: 245}}}, nil, api.ErrSlot)
	expectMerge(t, [][]api.Entry{{{Slot: 7, Req: unlike[1].Req}, {Slot: 7}}}, nil, api.ErrOther)
}

// Any histories, right ones most often, beside the words; their order changes nothing.
func TestWildMerges(t *testing.T) {
	r := rand.New(rand.NewSource(22))
	counts := map[api.Errno]int{}
	for range 3000 {
		histories := anyHistories(r)
		log, e := mergeOf(histories)
		counts[e]++
		for range 3 {
			expectMerge(t, histories, log, e)
			r.Shuffle(len(histories), func(i, j int) { histories[i], histories[j] = histories[j], histories[i] })
			for _, list := range histories {
				r.Shuffle(len(list), func(i, j int) { list[i], list[j] = list[j], list[i] })
			}
		}
	}
	for _, e := range []api.Errno{api.OK, api.ErrArg, api.ErrSlot, api.ErrOther, api.ErrAbsent} {
		if counts[e] < 100 {
			t.Error("too few merges that answer", e, counts)
		}
	}
}

// anyHistories answers pieces of a log, in which some entry may be wrong in some way.
func anyHistories(r *rand.Rand) [][]api.Entry {
	log := anyLog(r, r.Intn(20))
	var histories [][]api.Entry
	for range r.Intn(6) {
		from := r.Intn(len(log) + 1)
		to := from + r.Intn(len(log)-from+1)
		histories = append(histories, history(from+1, log[from:to]...))
	}
	if r.Intn(3) > 0 {
		histories = append(histories, history(1, log...))
	}
	for _, list := range histories {
		if len(list) == 0 || r.Intn(8) > 0 {
			continue
		}
		x := &list[r.Intn(len(list))]
		switch r.Intn(4) {
		case 0:
			x.Slot = 250*r.Intn(2) - r.Intn(6)
		case 1:
			x.Slot = r.Intn(25)
		case 2:
			x.Req = wrongRequests()[r.Intn(len(wrongRequests()))]
		case 3:
			x.Req.Op = anyOp(r)
		}
	}
	return histories
}

// The answer shares no memory with what was handed in, nor with another answer.
func TestMergeAnswersNewMemory(t *testing.T) {
	log := rising(1, put("key", 1), put("other", 2))
	list := history(1, log...)
	one, _ := saga.Merge([][]api.Entry{list})
	other, _ := saga.Merge([][]api.Entry{list})
	spoil(&one)
	spoil(&list)
	if tell(other) != tell(log) {
		t.Error(other)
	}
}
