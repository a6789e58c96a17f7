package arena

import (
	"iter"

	"larder/api"
)

// Blocks: the live blocks, in rising order: offset, bytes.
func (a *Arena) Blocks() iter.Seq2[int, int] {
	return func(yield func(int, int) bool) {
		// Parts is a list of its own: what the loop's body does to the arena is not seen in it.
		for _, part := range a.Parts() {
			if part.Live && !yield(part.Off, part.Size) {
				return
			}
		}
	}
}

// Parts: all blocks that ever were, in rising order.
func (a *Arena) Parts() []api.Part {
	parts := make([]api.Part, len(a.begins))
	end := a.End()
	for i, off := range a.begins {
		next := end
		if i+1 < len(a.begins) {
			next = a.begins[i+1]
		}
		_, live := a.live[off]
		parts[i] = api.Part{Off: off, Size: next - off, Live: live}
	}
	return parts
}

// Restore: an arena with these blocks; bytes are those of the live ones, one behind the other.
func Restore(limit int, parts []api.Part, bytes string) (*Arena, api.Errno) {
	a, e := New(limit)
	if e != api.OK {
		return nil, e
	}
	if !possible(limit, parts) {
		return nil, api.ErrParts
	}
	live := liveBytes(parts)
	if len(bytes) != live {
		return nil, api.ErrBytes
	}
	if live > limit {
		return nil, api.ErrMemory
	}
	for _, part := range parts {
		bytes = a.restore(part, bytes)
	}
	return a, api.OK
}

// possible: can an arena with that limit have these parts?
func possible(limit int, parts []api.Part) bool {
	end := api.First
	ofClass := map[int]int{}
	for _, part := range parts {
		class := Class(part.Size)
		if part.Off != end || class == 0 || part.Size != class {
			return false
		}
		end += class
		ofClass[class] += class
		if ofClass[class] > limit {
			return false
		}
	}
	return true
}

// liveBytes: the sum of the live parts' bytes.
func liveBytes(parts []api.Part) int {
	sum := 0
	for _, part := range parts {
		if part.Live {
			sum += part.Size
		}
	}
	return sum
}

// restore: the part is the arena's next block; if it is live it takes its bytes from the head of those given. The rest of them is answered.
func (a *Arena) restore(part api.Part, bytes string) string {
	off := a.add(part.Size)
	if !part.Live {
		a.leave(off, part.Size)
		return bytes
	}
	a.enter(off, part.Size)
	a.memory.Write(off, []byte(bytes[:part.Size]))
	return bytes[part.Size:]
}
