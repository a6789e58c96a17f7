package store_test

import (
	"larder/api"
	"larder/store"
)

// play: the command is given to a store: its answer.
func play(s *store.Store, c api.Cmd) api.Answer {
	a := api.Answer{Op: c.Op}
	switch c.Op {
	case api.OpMake:
		a.N, a.Err = s.Make(c.U, c.N, c.Fields...)
	case api.OpGet:
		a.Elem, a.Yes, a.Err = s.Get(c.H, c.Key)
	case api.OpPut:
		a.Yes, a.Err = s.Put(c.H, c.Key, c.Elem)
	case api.OpDelete:
		a.Yes, a.Err = s.Delete(c.H, c.Key)
	case api.OpLen:
		a.N, a.Err = s.Len(c.H)
	case api.OpClear:
		a.Err = s.Clear(c.H, c.U)
	case api.OpClone:
		a.N, a.Err = s.Clone(c.H)
	case api.OpOpen:
		a.N, a.Err = s.Open(c.H, c.U, c.V)
	case api.OpNext:
		var p api.Pair
		p, a.Yes, a.Err = s.Next(c.H)
		a.Key, a.Elem = p.Key, p.Elem
	case api.OpRelease:
		a.Err = s.Release(c.Hs...)
	case api.OpLive:
		a.N = s.Live()
	case api.OpProbes:
		a.N, a.Err = s.Probes(c.H, c.Key)
	case api.OpSlots:
		a.N, a.Err = s.Slots(c.H)
	default:
		panic("no command of a test")
	}
	return a
}

// names: of the commands, for what a test tells.
var names = map[int]string{
	api.OpMake: "Make", api.OpGet: "Get", api.OpPut: "Put", api.OpDelete: "Delete", api.OpLen: "Len", api.OpClear: "Clear", api.OpClone: "Clone",
	api.OpOpen: "Open", api.OpNext: "Next", api.OpRelease: "Release", api.OpLive: "Live", api.OpProbes: "Probes", api.OpSlots: "Slots",
}

// promises: which of them says what a command answers.
var promises = map[int]string{
	api.OpMake: "P14.2", api.OpGet: "P14.3", api.OpPut: "P14.3", api.OpDelete: "P14.3", api.OpLen: "P14.3", api.OpClear: "P14.3", api.OpClone: "P14.4",
	api.OpOpen: "P14.5", api.OpNext: "P14.5", api.OpRelease: "P14.6", api.OpLive: "P14.7", api.OpProbes: "P14.3", api.OpSlots: "P14.3",
}
