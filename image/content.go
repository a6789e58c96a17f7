package image

import (
	"strings"

	"larder/api"
	"larder/arena"
	"larder/store"
)

// content: what an image says, but for its sum.
type content struct {
	limit int
	hold  api.Hold
	parts []api.Part
	bytes string // those of the live parts, one behind the other
}

// contentOf: what is said of a store that keeps this, in that arena.
func contentOf(hold api.Hold, a *arena.Arena) content {
	var live strings.Builder
	for off, size := range a.Blocks() {
		block, _ := a.Read(off, size) // a live block's own bytes are never refused
		live.WriteString(block)
	}
	return content{a.Limit(), hold, a.Parts(), live.String()}
}

// store: the store of which that is said, with an arena of its own.
func (c content) store() (*store.Store, api.Errno) {
	a, e := arena.Restore(c.limit, c.parts, c.bytes)
	if e != api.OK {
		return nil, e
	}
	return store.Restore(c.hold, a)
}
