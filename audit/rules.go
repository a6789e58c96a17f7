package audit

import "larder/api"

// The rules, by the document's numbers.
const (
	badLayout     = 1
	badHeader     = 3
	badDepth      = 4
	noSuchBlock   = 6
	claimedTwice  = 7
	badKind       = 8
	badPins       = 9
	badNext       = 10
	badControl    = 11
	slotNotZero   = 12
	badTag        = 13
	badBirth      = 14
	keyTwice      = 15
	birthTwice    = 16
	badUsed       = 17
	spareNotZero  = 18
	badSlots      = 19
	badTableDepth = 20
	badEntry      = 21
	mixedGroup    = 22
	wrongTable    = 23
	outOfReach    = 24
	badRoom       = 25
	lostBlock     = 26
)

// found: what the look gives up with; no finding, where it comes to its end. A panic of another kind is no finding, and goes on.
func found(look func()) (f api.Finding) {
	defer func() {
		switch r := recover().(type) {
		case nil:
		case api.Finding:
			f = r
		default:
			panic(r)
		}
	}()
	look()
	return api.Finding{}
}

// giveUp: the look ends here, however deep it is: this rule is the first that is broken.
func giveUp(rule, place int) { panic(api.Finding{Code: rule, Off: place}) }
