package arena_test

import (
	"fmt"
	"math/rand"
	"slices"
	"strings"
	"testing"

	"larder/api"
	"larder/arena"
)

// model: an arena by the chapter's words alone: a list of all its blocks, and all its bytes.
type model struct {
	limit int
	parts []api.Part
	bytes []byte
}

func (m *model) live() int {
	sum := 0
	for _, p := range m.parts {
		if p.Live {
			sum += p.Size
		}
	}
	return sum
}

func (m *model) alloc(sizes []int) (offs []int, e api.Errno) {
	need := m.live()
	for _, n := range sizes {
		if n < 1 {
			return nil, api.ErrAsk
		}
		if classOf(n) == 0 {
			e = api.ErrMemory
		}
		need += classOf(n)
	}
	if e != api.OK || need > m.limit {
		return nil, api.ErrMemory
	}
	for _, n := range sizes {
		offs = append(offs, m.take(classOf(n)))
	}
	return offs, api.OK
}

func (m *model) take(class int) int {
	for i, p := range m.parts {
		if !p.Live && p.Size == class {
			m.parts[i].Live = true
			clear(m.bytes[p.Off : p.Off+class])
			return p.Off
		}
	}
	off := len(m.bytes)
	m.parts = append(m.parts, part(off, class))
	m.bytes = append(m.bytes, make([]byte, class)...)
	return off
}

func (m *model) begins(off int) int {
	return slices.IndexFunc(m.parts, func(p api.Part) bool { return p.Live && p.Off == off })
}

func (m *model) free(offs []int) api.Errno {
	for i, off := range offs {
		if m.begins(off) < 0 || slices.Contains(offs[:i], off) {
			return api.ErrBlock
		}
	}
	for _, off := range offs {
		m.parts[m.begins(off)].Live = false
	}
	return api.OK
}

func (m *model) size(off int) (int, api.Errno) {
	if i := m.begins(off); i >= 0 {
		return m.parts[i].Size, api.OK
	}
	return 0, api.ErrBlock
}

func (m *model) numberError(off, width int) api.Errno {
	if width != 1 && width != 2 && width != 4 && width != 8 {
		return api.ErrWidth
	}
	return deadOf(isGood(m.parts, off, width))
}

func (m *model) load(off, width int) (v uint64, e api.Errno) {
	if e = m.numberError(off, width); e != api.OK {
		return 0, e
	}
	for i := range width {
		v += uint64(m.bytes[off+i]) << (8 * i)
	}
	return v, e
}

func (m *model) store(off, width int, v uint64) api.Errno {
	e := m.numberError(off, width)
	for i := 0; e == api.OK && i < width; i++ {
		m.bytes[off+i] = byte(v >> (8 * i))
	}
	return e
}

// write: lays bytes at a span that is good; else none.
func (m *model) write(off, n int, s string) api.Errno {
	if !isGood(m.parts, off, n) {
		return api.ErrDead
	}
	copy(m.bytes[off:], s)
	return api.OK
}

func (m *model) read(off, n int) (string, api.Errno) {
	if !isGood(m.parts, off, n) {
		return "", api.ErrDead
	}
	return string(m.bytes[off : off+n]), api.OK
}

// call: a call's name and its arguments; each name uses some of them.
type call struct {
	name         string
	list         []int
	x, y, n, wid int
	v            uint64
	texts        []string
}

// ask: what the arena answers, as a text.
func (c call) ask(a *arena.Arena) string {
	switch c.name {
	case "Alloc":
		return fmt.Sprint(a.Alloc(c.n))
	case "AllocAll":
		return fmt.Sprint(a.AllocAll(c.list...))
	case "Free":
		return fmt.Sprint(a.Free(c.list...))
	case "Size":
		return fmt.Sprint(a.Size(c.x))
	case "Load":
		return fmt.Sprint(a.Load(c.x, c.wid))
	case "Store":
		return fmt.Sprint(a.Store(c.x, c.wid, c.v))
	case "Fill":
		return fmt.Sprint(a.Fill(c.x, c.n, byte(c.v)))
	case "Copy":
		return fmt.Sprint(a.Copy(c.x, c.y, c.n))
	case "Equal":
		return fmt.Sprint(a.Equal(c.x, c.y, c.n))
	case "Read":
		return fmt.Sprint(a.Read(c.x, c.n))
	}
	return fmt.Sprint(a.Write(c.x, c.texts...))
}

// want: what the words ask for, as a text.
func (c call) want(m *model) string {
	switch c.name {
	case "Alloc":
		offs, e := m.alloc([]int{c.n})
		return fmt.Sprint(append(offs, 0)[0], e)
	case "AllocAll":
		return fmt.Sprint(m.alloc(c.list))
	case "Free":
		return fmt.Sprint(m.free(c.list))
	case "Size":
		return fmt.Sprint(m.size(c.x))
	case "Load":
		return fmt.Sprint(m.load(c.x, c.wid))
	case "Store":
		return fmt.Sprint(m.store(c.x, c.wid, c.v))
	case "Fill":
		n := min(max(c.n, 0), len(m.bytes))
		return fmt.Sprint(m.write(c.x, c.n, strings.Repeat(string([]byte{byte(c.v)}), n)))
	case "Copy":
		s, e := m.read(c.y, c.n)
		return fmt.Sprint(max(e, m.write(c.x, c.n, s)))
	case "Equal":
		s, e := m.read(c.x, c.n)
		z, e2 := m.read(c.y, c.n)
		return fmt.Sprint(max(e, e2) == api.OK && s == z, max(e, e2))
	case "Read":
		return fmt.Sprint(m.read(c.x, c.n))
	}
	s := strings.Join(c.texts, "")
	return fmt.Sprint(m.write(c.x, len(s), s))
}

// picture: what an arena must tell.
func (m *model) picture() picture {
	p := picture{Limit: m.limit, Live: m.live(), End: len(m.bytes), Parts: append([]api.Part{}, m.parts...)}
	for _, b := range m.parts {
		if b.Live {
			p.Blocks = append(p.Blocks, [2]int{b.Off, b.Size})
			p.Bytes = append(p.Bytes, string(m.bytes[b.Off:b.Off+b.Size]))
		}
	}
	return p
}

// place: mostly in a block or near its edges, now and then far off.
func (m *model) place(r *rand.Rand) int {
	if r.Intn(10) == 0 {
		return far[r.Intn(len(far))]
	}
	if len(m.parts) == 0 || r.Intn(6) == 0 {
		return r.Intn(len(m.bytes) + 2)
	}
	p := m.parts[r.Intn(len(m.parts))]
	return p.Off + []int{0, 0, 1, p.Size - 1, p.Size, r.Intn(p.Size)}[r.Intn(6)]
}

func length(r *rand.Rand) int {
	return []int{0, 1, 16, 17, 48, r.Intn(20), r.Intn(70), -1, far[r.Intn(len(far))]}[r.Intn(9)]
}

func (m *model) offs(r *rand.Rand) []int {
	l := make([]int, r.Intn(4))
	for i := range l {
		l[i] = m.place(r)
		if len(m.parts) > 0 && r.Intn(4) > 0 {
			l[i] = m.parts[r.Intn(len(m.parts))].Off
		}
	}
	return l
}

// next: some call, with arguments that mostly make sense just now.
func (m *model) next(r *rand.Rand) call {
	names := []string{"Alloc", "AllocAll", "Free", "Free", "Size", "Load", "Store", "Fill", "Copy", "Copy", "Equal", "Read", "Write"}
	c := call{name: names[r.Intn(len(names))], x: m.place(r), y: m.place(r), n: length(r), wid: []int{1, 2, 4, 8, 3, length(r)}[r.Intn(6)], v: r.Uint64()}
	switch c.name {
	case "Alloc":
		c.n = max(c.n, r.Intn(200)-3)
	case "AllocAll":
		for range r.Intn(4) {
			c.list = append(c.list, max(length(r), r.Intn(60)-1))
		}
	case "Free":
		c.list = m.offs(r)
	case "Write":
		for range r.Intn(4) {
			c.texts = append(c.texts, marks(r.Intn(99), r.Intn(8)))
		}
	}
	return c
}

// TestModel: arenas are called at random, and answer and hold what the words say; now and then one more is restored from what they tell, and from then on called as they are (P2.14).
func TestModel(t *testing.T) {
	for seed := range 60 {
		r := rand.New(rand.NewSource(int64(seed)))
		m := &model{limit: []int{0, 100, 400, 1000, 3000}[seed%5], bytes: make([]byte, 16)}
		arenas := []*arena.Arena{begin(t, m.limit)}
		for i := range 300 {
			c := m.next(r)
			want := c.want(m)
			for k, a := range arenas {
				if got := c.ask(a); got != want {
					t.Fatalf("seed %d, call %d, arena %d: %+v answers %q, want %q", seed, i, k, c, got, want)
				}
				kept(t, fmt.Sprintf("seed %d, call %d, arena %d: %+v", seed, i, k, c), a, m.picture())
			}
			if i%60 == 30 {
				arenas = append(arenas, told(t, arenas[r.Intn(len(arenas))]))
			}
		}
	}
}
