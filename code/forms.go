package code

import "larder/api"

// What an instruction uses: N, if it is a number; else A.
const (
	nothing = iota
	aNumber
	aVar
	aMap
	aPlace
	aCount
)

// form: an instruction's name in a text, and what it uses.
type form struct {
	name string
	uses int
}

var forms = [...]form{
	api.InPush:  {"push", aNumber},
	api.InLoad:  {"load", aVar},
	api.InStore: {"store", aVar},
	api.InGet:   {"get", aMap},
	api.InHas:   {"has", aMap},
	api.InLen:   {"len", aMap},
	api.InNeg:   {"neg", nothing},
	api.InNot:   {"not", nothing},
	api.InAdd:   {"add", nothing},
	api.InSub:   {"sub", nothing},
	api.InMul:   {"mul", nothing},
	api.InDiv:   {"div", nothing},
	api.InRem:   {"rem", nothing},
	api.InEq:    {"eq", nothing},
	api.InNe:    {"ne", nothing},
	api.InLt:    {"lt", nothing},
	api.InLe:    {"le", nothing},
	api.InGt:    {"gt", nothing},
	api.InGe:    {"ge", nothing},
	api.InPut:   {"put", aMap},
	api.InDel:   {"del", aMap},
	api.InClear: {"clear", aMap},
	api.InPrint: {"print", aCount},
	api.InJump:  {"jump", aPlace},
	api.InZero:  {"zero", aPlace},
	api.InOpen:  {"open", aMap},
	api.InNext:  {"next", aPlace},
	api.InClose: {"close", nothing},
	api.InTick:  {"tick", nothing},
}

// isForm: is it an Op of the table, and are the numbers 0 that it does not use?
func isForm(in api.Inst) bool {
	if in.Op < api.InPush || in.Op > api.InTick {
		return false
	}
	uses := forms[in.Op].uses
	return (in.N == 0 || uses == aNumber) && (in.A == 0 || uses != aNumber && uses != nothing)
}

// opNamed: the Op of a name; 0, if it is none of the table.
func opNamed(name string) int {
	for op := api.InPush; op <= api.InTick; op++ {
		if forms[op].name == name {
			return op
		}
	}
	return 0
}
