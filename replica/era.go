package replica

import (
	"slices"

	"witan/api"
	"witan/council"
	"witan/deeds"
	"witan/ledger"
	"witan/slots"
	"witan/votes"
)

// era is what a replica has for one epoch: its log, and what goes when the next epoch begins.
type era struct {
	*slots.Log
	ledger  *ledger.Ledger
	conf    api.Conf // the ledger's: that ledger isn't turned, only a copy of it
	tally   *votes.Tally
	changes [api.Ids]api.Change // by the members' numbers; one of the view 0, to which no change leads, is none
	says    []api.Msg
	next    int // the slot that it proposes next
	active  bool
	voted   bool
}

// newEra answers what a replica has when it begins with the ledger. No error can come: a ledger's configuration is right.
func newEra(l *ledger.Ledger) *era {
	conf := l.Conf()
	log, _ := slots.New(conf)
	tally, _ := votes.New(conf)
	e := &era{Log: log, ledger: l, conf: conf, tally: tally, active: true}
	e.next = e.first()
	return e
}

// first answers the epoch's first slot.
func (e *era) first() int { return api.Interval*e.conf.Epoch + 1 }

// last answers the epoch's last slot.
func (e *era) last() int { return api.Interval * (e.conf.Epoch + 1) }

func (e *era) has(id int) bool { return council.Has(e.conf, id) }

func (e *era) quorum() int { return council.Quorum(len(e.conf.Members)) }

// isPrimary tells if it is the primary of the view, and so a member.
func (e *era) isPrimary(id, view int) bool {
	primary, found := council.Primary(e.conf, view)
	return found && id == primary
}

// isOpenTo tells if the view may be gone to: a later one, or its own, as long as it isn't active there.
func (e *era) isOpenTo(view int) bool {
	return view > e.View() || view == e.View() && !e.active
}

// isProposed tells if the request is the same as a proposal of the view.
func (e *era) isProposed(q api.Request) bool {
	for slot := e.first(); slot <= e.last(); slot++ {
		if p, found := e.Proposed(slot); found && deeds.Same(p, q) {
			return true
		}
	}
	return false
}

// changesOf answers the changes that came, of the view, by members.
func (e *era) changesOf(view int) []api.Change {
	var list []api.Change
	for _, id := range e.conf.Members {
		if x := e.changes[id]; x.View == view {
			list = append(list, x)
		}
	}
	return list
}

// urged answers the greatest view of which, or of greater ones, changes of a weak quorum of members came; 0, if there is none.
func (e *era) urged() int {
	var views []int
	for _, id := range e.conf.Members {
		views = append(views, e.changes[id].View)
	}
	slices.Sort(views)
	return views[len(views)-council.Weak(len(views))]
}

// hush leaves of what it says the vote alone, and the view's beginning, if it said that.
func (e *era) hush(view int) {
	var kept []api.Msg
	for _, m := range e.says {
		if m.Kind == api.MVote || m.Kind == api.MNewView && m.View == view {
			kept = append(kept, m)
		}
	}
	e.says = kept
}
