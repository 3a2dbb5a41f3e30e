package saga_test

import (
	"slices"

	"witan/api"
	"witan/deeds"
	"witan/ledger"
)

// The chapter's words once more, as plainly as they may be said: nothing is kept but what was handed in, and each answer is worked out from the beginning.

// mergeOf answers what Merge should.
func mergeOf(histories [][]api.Entry) ([]api.Request, api.Errno) {
	all := slices.Concat(histories...)
	for _, x := range all {
		if !deeds.Right(x.Req) && !deeds.Null(x.Req) {
			return nil, api.ErrArg
		}
	}
	greatest := 0
	for _, x := range all {
		if x.Slot < 1 || x.Slot > 244 {
			return nil, api.ErrSlot
		}
		greatest = max(greatest, x.Slot)
	}
	for _, x := range all {
		for _, y := range all {
			if x.Slot == y.Slot && !deeds.Same(x.Req, y.Req) {
				return nil, api.ErrOther
			}
		}
	}
	var log []api.Request
	for slot := 1; slot <= greatest; slot++ {
		place := slices.IndexFunc(all, func(x api.Entry) bool { return x.Slot == slot })
		if place < 0 {
			return nil, api.ErrAbsent
		}
		log = append(log, canonOf(all[place].Req))
	}
	return log, api.OK
}

// canonOf answers the request with its real's bits.
func canonOf(q api.Request) api.Request {
	if q.Op.Real != q.Op.Real {
		q.Op.Real = nanOf(0x7FF8000000000000)
	}
	return q
}

// model is a saga by the words.
type model struct {
	first api.Conf
	log   []api.Request
}

// behind answers the ledger behind n requests.
func (m *model) behind(n int) *ledger.Ledger {
	l, _ := ledger.New(m.first)
	for _, q := range m.log[:n] {
		if l.Full() {
			l.Turn()
		}
		l.Do(q)
	}
	return l
}

func (m *model) state(n int, turned bool) (string, bool) {
	if n < 0 || n > len(m.log) {
		return "", false
	}
	l := m.behind(n)
	if turned && l.Turn() != api.OK {
		return "", false
	}
	return l.Text(), true
}

func (m *model) conf(epoch int) (api.Conf, bool) {
	if epoch == 0 {
		return m.first, true
	}
	if epoch < 0 || epoch > 60 || len(m.log) < 4*epoch {
		return api.Conf{}, false
	}
	l := m.behind(4 * epoch)
	l.Turn()
	return l.Conf(), true
}

// outcome looks at the stamps alone: a client's last one is the greatest one that it had.
func (m *model) outcome(q api.Request) (int, api.Result, bool) {
	last := 0
	for i, was := range m.log {
		if deeds.Same(q, was) && q.Stamp > last {
			l := m.behind(i)
			if l.Full() {
				l.Turn()
			}
			result, _ := l.Do(q)
			return i + 1, result, true
		}
		if was.Client == q.Client {
			last = max(last, was.Stamp)
		}
	}
	return 0, api.Result{}, false
}

func (m *model) sound(bad []int) bool {
	for epoch := 0; epoch <= 60 && 4*epoch <= len(m.log); epoch++ {
		c, _ := m.conf(epoch)
		n := 0
		for _, id := range c.Members {
			if slices.Contains(bad, id) {
				n++
			}
		}
		if n > faultsOf(len(c.Members)) {
			return false
		}
	}
	return true
}
