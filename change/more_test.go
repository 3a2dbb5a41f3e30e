package change_test

import (
	"cmp"
	"fmt"
	"math/rand"
	"slices"
	"testing"

	"witan/api"
)

// P16.3: more changes change what is picked only where one of them has a certificate of a greater view, or of a slot of which there was none.

// joined answers both lists in one that rises.
func joined(a, b []api.Change) []api.Change {
	all := append(slices.Clone(a), b...)
	slices.SortFunc(all, func(x, y api.Change) int { return cmp.Compare(x.From, y.From) })
	return all
}

// greatestView answers of which view the slot's greatest certificate is, -1 if there is none.
func greatestView(l []api.Change, slot int) int {
	view := -1
	for _, x := range l {
		for _, c := range x.Certs {
			if c.Slot == slot {
				view = max(view, c.View)
			}
		}
	}
	return view
}

// askMore picks from some changes and from those and more, and tells in how many slots something else is picked. Where it may not be so, it is an error.
func askMore(t *testing.T, c api.Conf, view int, some, more []api.Change) int {
	t.Helper()
	few, e := askPick(t, c, view, some)
	all, f := askPick(t, c, view, joined(some, more))
	if e != api.OK || f != api.OK || len(all) < len(few) {
		t.Fatalf("%d %d, %d of %d", e, f, len(all), len(few))
	}
	changed := 0
	for i, slot := range slotsOf(c.Epoch) {
		if i >= len(all) || i < len(few) && isSameRequest(all[i], few[i]) {
			continue
		}
		before, beside := greatestView(some, slot), greatestView(more, slot)
		behind := slices.ContainsFunc(slotsOf(c.Epoch)[i:], func(s int) bool { return greatestView(some, s) < 0 && greatestView(more, s) >= 0 })
		switch {
		case beside > before:
			changed++
		case i >= len(few) && isNull(all[i]) && behind: // a null request ahead of a slot of which there was none
		default:
			t.Fatalf("%d: %s, not %s; the views %d and %d", slot, short(all), short(few), before, beside)
		}
	}
	return changed
}

// prepared answers what was prepared in a view and a slot: of each there is one request.
func prepared(view, slot int) api.Request {
	if (view+slot)%5 == 0 {
		return null()
	}
	return request(1+view%8, 1+slot, api.OpPut, "k", float64(view), 0)
}

// Four members, of each whether it has a certificate of the second and of the fourth slot, and of which view: each one is left out once.
func TestOneChangeMore(t *testing.T) {
	c := conf(0, 0, 1, 2, 3)
	var of [4][9]api.Change
	for id := range 4 {
		for kind := range 9 {
			var certs []api.Cert
			if v := kind % 3; v > 0 {
				certs = append(certs, certOf(0, v-1, 2, prepared(v-1, 2), 0, 1, 2))
			}
			if v := kind / 3; v > 0 {
				certs = append(certs, certOf(0, v-1, 4, prepared(v-1, 4), 1, 2, 3))
			}
			of[id][kind] = changeOf(0, id, 2, certs...)
		}
	}
	changed := 0
	for row := range 6561 {
		all := []api.Change{of[0][row%9], of[1][row/9%9], of[2][row/81%9], of[3][row/729]}
		for at := range all {
			changed += askMore(t, c, 2, slices.Delete(slices.Clone(all), at, at+1), all[at:at+1])
		}
	}
	if changed < 1000 {
		t.Error("too few are changed:", changed)
	}
}

// Of each number of members a quorum, and each set of the others beside it.
func TestMoreChangesByChance(t *testing.T) {
	changed, same := 0, 0
	for seed, c := range someConfs() {
		r := rand.New(rand.NewSource(int64(seed)))
		n := len(c.Members)
		for range 12 {
			var all []api.Change
			for _, id := range c.Members {
				var certs []api.Cert
				for _, slot := range slotsOf(c.Epoch) {
					if view := r.Intn(7) - 2; view >= 0 {
						certs = append(certs, certOf(c.Epoch, view, slot, prepared(view, slot), quorumOf(c.Members)...))
					}
				}
				all = append(all, changeOf(c.Epoch, id, 6, certs[:r.Intn(len(certs)+1)]...))
			}
			r.Shuffle(n, func(i, k int) { all[i], all[k] = all[k], all[i] })
			some, more := joined(all[:quorums()[n]], nil), all[quorums()[n]:]
			for set := range 1 << len(more) {
				in, _ := chosen(more, set)
				if askMore(t, c, 6, some, in) > 0 {
					changed++
				} else {
					same++
				}
			}
		}
	}
	if changed < 300 || same < 300 {
		t.Error("too few:", changed, same)
	}
}

// Changes that have nothing greater and nothing new change nothing; one of a greater view changes its slot alone, one of a slot of which there was none is picked.
func TestWhatOneChangeMoreChanges(t *testing.T) {
	c := conf(3, 0, 1, 2, 3, 4, 5, 6)
	some := plain(3, 9, 1, 2, 3, 4, 5)
	some[2] = changeOf(3, 3, 9, certOf(3, 4, 13, join(1), 0, 1, 2, 3, 4), certOf(3, 5, 15, join(2), 0, 1, 2, 3, 4))
	for _, id := range []int{0, 6} {
		for name, x := range map[string]struct {
			certs []api.Cert
			want  []api.Request
		}{
			"none":         {nil, []api.Request{join(1), null(), join(2)}},
			"lesser ones":  {[]api.Cert{certOf(3, 3, 13, join(3), 0, 1, 2, 3, 4), certOf(3, 0, 15, null(), 0, 1, 2, 3, 4)}, []api.Request{join(1), null(), join(2)}},
			"the same":     {some[2].Certs, []api.Request{join(1), null(), join(2)}},
			"a greater":    {[]api.Cert{certOf(3, 5, 13, join(3), 0, 1, 2, 3, 4)}, []api.Request{join(3), null(), join(2)}},
			"the greatest": {[]api.Cert{certOf(3, 8, 15, join(3), 0, 1, 2, 3, 4)}, []api.Request{join(1), null(), join(3)}},
			"between":      {[]api.Cert{certOf(3, 0, 14, join(3), 0, 1, 2, 3, 4)}, []api.Request{join(1), join(3), join(2)}},
			"behind":       {[]api.Cert{certOf(3, 0, 16, join(3), 0, 1, 2, 3, 4)}, []api.Request{join(1), null(), join(2), join(3)}},
		} {
			l := joined(some, []api.Change{changeOf(3, id, 9, x.certs...)})
			expectPick(t, fmt.Sprint(name, " of ", id), c, 9, l, x.want...)
			askMore(t, c, 9, some, []api.Change{changeOf(3, id, 9, x.certs...)})
		}
	}
}
