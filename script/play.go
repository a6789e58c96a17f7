package script

import (
	"larder/api"
	"larder/audit"
	"larder/store"
)

// Play: a command, played on a store: its answer.
func Play(s *store.Store, c api.Cmd) api.Answer {
	a := api.Answer{Op: c.Op}
	switch c.Op {
	case api.OpMake:
		fallthrough
	case api.OpClone:
		fallthrough
	case api.OpOpen:
		fallthrough
	case api.OpLen:
		fallthrough
	case api.OpProbes:
		fallthrough
	case api.OpSlots:
		a.N, a.Err = playForNumber(s, c)
	case api.OpGet:
		a.Elem, a.Yes, a.Err = s.Get(c.H, c.Key)
	case api.OpPut:
		a.Yes, a.Err = s.Put(c.H, c.Key, c.Elem)
	case api.OpDelete:
		a.Yes, a.Err = s.Delete(c.H, c.Key)
	case api.OpClear:
		a.Err = s.Clear(c.H, c.U)
	case api.OpNext:
		var p api.Pair
		p, a.Yes, a.Err = s.Next(c.H)
		a.Key, a.Elem = p.Key, p.Elem
	case api.OpRelease:
		a.Err = s.Release(c.Hs...)
	case api.OpLive:
		a.N = s.Live()
	case api.OpAudit:
		f := audit.Check(s.Arena(), s.Oracle(), s.Roots()...)
		a.N, a.Off = f.Code, f.Off
	default:
		a.Err = api.ErrText
	}
	return a
}

// playForNumber: a command that is answered by a handle, a length or another number, or refused.
func playForNumber(s *store.Store, c api.Cmd) (int, api.Errno) {
	switch c.Op {
	case api.OpMake:
		return s.Make(c.U, c.N, c.Fields...)
	case api.OpClone:
		return s.Clone(c.H)
	case api.OpOpen:
		return s.Open(c.H, c.U, c.V)
	case api.OpLen:
		return s.Len(c.H)
	case api.OpProbes:
		return s.Probes(c.H, c.Key)
	}
	return s.Slots(c.H)
}
