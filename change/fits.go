package change

import (
	"witan/api"
	"witan/deeds"
)

// maxSigner is the greatest node that may stand in a signature.
const maxSigner = 199

// fits tells if the epoch is one, and the change fits it, whatever its own signature is.
func fits(epoch int, c api.Change) bool {
	return isWithin(epoch, 0, api.MaxEpoch) && isWithin(c.From, 0, api.Ids-1) && isLaterView(c.View) && fitCerts(epoch, c.Certs)
}

func isWithin(n, least, most int) bool { return n >= least && n <= most }

// isLaterView tells if it is a view that begins by changes: the first one, 0, doesn't.
func isLaterView(view int) bool { return isWithin(view, 1, api.MaxView) }

// firstOf answers the epoch's first slot.
func firstOf(epoch int) int { return api.Interval*epoch + 1 }

// fitCerts doesn't ask how many there are: no more than the epoch's slots can rise within them, and the first one that doesn't ends it.
func fitCerts(epoch int, list []api.Cert) bool {
	for i, c := range list {
		if !fitCert(epoch, c) || i > 0 && c.Slot <= list[i-1].Slot {
			return false
		}
	}
	return true
}

func fitCert(epoch int, c api.Cert) bool {
	return isWithin(c.View, 0, api.MaxView) && isWithin(c.Slot, firstOf(epoch), firstOf(epoch+1)-1) &&
		(deeds.Right(c.Req) || deeds.Null(c.Req)) && fitSigs(c.Sigs)
}

// fitSigs asks for the list's length first, so that a list that is too long isn't gone through.
func fitSigs(list []api.Sig) bool {
	if len(list) > api.MaxSigs {
		return false
	}
	for _, s := range list {
		if !isWithin(s.By, 0, maxSigner) {
			return false
		}
	}
	return true
}
