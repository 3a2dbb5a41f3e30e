package wire

import (
	"witan/api"
	"witan/council"
	"witan/deeds"
	"witan/reals"
)

// maxSigner is the greatest node that may stand in a signature.
const maxSigner = 199

// fields is a set of a message's fields, beside Kind and Epoch, which every message has.
type fields int

const (
	aView fields = 1 << iota
	aSlot
	aReq
	aResult
	aText
	aNext
	aSigs
	aChanges
	aLinks
)

func (f fields) has(one fields) bool { return f&one != 0 }

func isKind(kind int) bool { return kind >= api.MRequest && kind <= api.MState }

// fits tells if the message fits. A list's length is asked ahead of what stands in it, so that a list that is too long isn't gone through.
func fits(m api.Msg) bool {
	if !isWithin(m.Epoch, 0, api.MaxEpoch) {
		return false
	}
	switch m.Kind {
	case api.MRequest:
		return hasOnly(m, aReq|aSigs) && m.Epoch == 0 && deeds.Right(m.Req) && areSigs(m.Sigs, 1)
	case api.MPropose:
		return hasOnly(m, aView|aSlot|aReq|aSigs) && isPlaced(m) && isDeed(m.Req) && areSigs(m.Sigs, askers(m.Req))
	case api.MPrepare:
		return hasOnly(m, aView|aSlot|aReq|aSigs) && isPlaced(m) && isDeed(m.Req) && areSigs(m.Sigs, 1)
	case api.MCommit:
		return hasOnly(m, aView|aSlot|aReq) && isPlaced(m) && isDeed(m.Req)
	case api.MVote:
		return hasOnly(m, aSlot|aText|aNext|aSigs) && m.Slot == endOf(m.Epoch) && m.Text != "" && areMembers(m.Next) && areSigs(m.Sigs, 2)
	case api.MChange:
		return hasOnly(m, aView|aChanges) && areChanges(m, 1)
	case api.MNewView:
		return hasOnly(m, aView|aChanges) && areChanges(m, api.Most)
	case api.MReply:
		return hasOnly(m, aReq|aResult) && deeds.Right(m.Req) && isResult(m.Result)
	case api.MFetch:
		return hasOnly(m, 0)
	case api.MState:
		return hasOnly(m, aSlot|aText|aSigs|aLinks) && m.Epoch >= 1 && m.Slot == endOf(m.Epoch-1) && m.Text != "" && areLinks(m) && fitSigs(m.Sigs)
	}
	return false
}

// hasOnly tells if all fields but these are zero. Reals are asked by their bits, since minus nought is equal to nought and yet another real.
func hasOnly(m api.Msg, asked fields) bool {
	return (asked.has(aView) || m.View == 0) &&
		(asked.has(aSlot) || m.Slot == 0) &&
		(asked.has(aReq) || deeds.Null(m.Req)) &&
		(asked.has(aResult) || m.Result.Code == api.CodeOK && reals.Bits(m.Result.Real) == 0) &&
		(asked.has(aText) || m.Text == "") &&
		(asked.has(aNext) || len(m.Next) == 0) &&
		(asked.has(aSigs) || len(m.Sigs) == 0) &&
		(asked.has(aChanges) || len(m.Changes) == 0) &&
		(asked.has(aLinks) || len(m.Links) == 0)
}

func isWithin(n, least, most int) bool { return n >= least && n <= most }

// endOf answers the epoch's last slot.
func endOf(epoch int) int { return api.Interval * (epoch + 1) }

func isOf(epoch, slot int) bool { return slot > endOf(epoch-1) && slot <= endOf(epoch) }

func isView(view int) bool { return isWithin(view, 0, api.MaxView) }

// isPlaced tells if the message's view is one and its slot is of its epoch.
func isPlaced(m api.Msg) bool { return isView(m.View) && isOf(m.Epoch, m.Slot) }

// isDeed tells if the request may stand in a slot.
func isDeed(r api.Request) bool { return deeds.Right(r) || deeds.Null(r) }

// askers answers how many signatures stand beside a request that is proposed: nobody asked for the null one.
func askers(r api.Request) int {
	if deeds.Null(r) {
		return 0
	}
	return 1
}

// isResult asks for the text, since just a right result has one.
func isResult(x api.Result) bool {
	_, e := deeds.ResultText(x)
	return e == api.OK
}

func areMembers(list []int) bool { return council.Right(api.Conf{Members: list}) }

func isSig(s api.Sig) bool { return isWithin(s.By, 0, maxSigner) }

func fitSigs(list []api.Sig) bool {
	if len(list) > api.MaxSigs {
		return false
	}
	for _, s := range list {
		if !isSig(s) {
			return false
		}
	}
	return true
}

func areSigs(list []api.Sig, count int) bool { return len(list) == count && fitSigs(list) }

// areChanges tells if there are one to most changes, rising, that fit and are of the message's view. That view isn't asked by itself: no change fits but of the views from 1 on.
func areChanges(m api.Msg, most int) bool {
	if !isWithin(len(m.Changes), 1, most) {
		return false
	}
	for i, c := range m.Changes {
		if c.View != m.View || !isChange(m.Epoch, c) || i > 0 && c.From <= m.Changes[i-1].From {
			return false
		}
	}
	return true
}

// isChange tells if the change fits the epoch.
func isChange(epoch int, c api.Change) bool {
	return isWithin(c.From, 0, api.Ids-1) && isWithin(c.View, 1, api.MaxView) && areCerts(epoch, c.Certs) && isSig(c.Sig)
}

func areCerts(epoch int, list []api.Cert) bool {
	if len(list) > api.Interval {
		return false
	}
	for i, c := range list {
		if !isCert(epoch, c) || i > 0 && c.Slot <= list[i-1].Slot {
			return false
		}
	}
	return true
}

func isCert(epoch int, c api.Cert) bool {
	return isView(c.View) && isOf(epoch, c.Slot) && isDeed(c.Req) && fitSigs(c.Sigs)
}

// areLinks tells if there is a link for each epoch from 1 to the message's.
func areLinks(m api.Msg) bool {
	if len(m.Links) != m.Epoch {
		return false
	}
	for i, l := range m.Links {
		if l.Conf.Epoch != i+1 || !council.Right(l.Conf) || !fitSigs(l.Sigs) {
			return false
		}
	}
	return true
}
