package mem_test

import (
	"bytes"
	"math/rand"
	"sync"
	"testing"

	"larder/api"
	"larder/mem"
)

// pair: a memory, and beside it what it must hold, kept by the chapter's words alone.
type pair struct {
	m    *mem.Mem
	want []byte
}

// pick: mostly a place of the memory or right behind it, now and then an edge.
func pick(r *rand.Rand, size int) int {
	if r.Intn(6) == 0 {
		l := edges(size)
		return l[r.Intn(len(l))]
	}
	return r.Intn(size + 2)
}

// step: one call, held against the words; says which promise it is about.
func (p *pair) step(r *rand.Rand) (promise string, fine bool) {
	size := len(p.want)
	a, b, n := pick(r, size), pick(r, size), pick(r, size/2)
	switch r.Intn(8) {
	case 0:
		return "P1.1", p.grow(size + r.Intn(12) - 3)
	case 1:
		return "P1.2", p.load(a, []int{1, 2, 4, 8, 3, n}[r.Intn(6)])
	case 2:
		return "P1.3", p.store(a, []int{1, 2, 4, 8, 3, n}[r.Intn(6)], r.Uint64())
	case 3:
		return "P1.4", p.fill(a, n, byte(r.Intn(3)))
	case 4:
		return "P1.5", p.copy(a, b, n)
	case 5:
		return "P1.6", p.equal(a, b, n)
	case 6:
		return "P1.7", p.read(a, n)
	}
	parts := make([][]byte, r.Intn(4))
	for i := range parts {
		parts[i] = make([]byte, r.Intn(5))
		r.Read(parts[i])
	}
	return "P1.8", p.write(a, parts)
}

func (p *pair) lies(off, n int) bool { return lies(len(p.want), off, n) }

func (p *pair) grow(size int) bool {
	if size < len(p.want) {
		return p.m.Grow(size) == api.ErrSize
	}
	for len(p.want) < size {
		p.want = append(p.want, 0)
	}
	return p.m.Grow(size) == api.OK
}

func (p *pair) numberError(off, width int) api.Errno {
	if width != 1 && width != 2 && width != 4 && width != 8 {
		return api.ErrWidth
	}
	return boundsOf(p.lies(off, width))
}

func (p *pair) load(off, width int) bool {
	want, v := p.numberError(off, width), uint64(0)
	for i := width - 1; want == api.OK && i >= 0; i-- {
		v = 256*v + uint64(p.want[off+i])
	}
	got, e := p.m.Load(off, width)
	return got == v && e == want
}

func (p *pair) store(off, width int, v uint64) bool {
	want := p.numberError(off, width)
	e := p.m.Store(off, width, v)
	for i := 0; want == api.OK && i < width; i++ {
		p.want[off+i] = byte(v % 256)
		v /= 256
	}
	return e == want
}

func (p *pair) fill(off, n int, b byte) bool {
	fine := p.lies(off, n)
	for i := 0; fine && i < n; i++ {
		p.want[off+i] = b
	}
	return p.m.Fill(off, n, b) == boundsOf(fine)
}

func (p *pair) copy(dst, src, n int) bool {
	fine := p.lies(dst, n) && p.lies(src, n)
	was := bytes.Clone(p.want)
	for i := 0; fine && i < n; i++ {
		p.want[dst+i] = was[src+i]
	}
	return p.m.Copy(dst, src, n) == boundsOf(fine)
}

func (p *pair) equal(a, b, n int) bool {
	fine := p.lies(a, n) && p.lies(b, n)
	want := fine
	for i := 0; fine && i < n; i++ {
		want = want && p.want[a+i] == p.want[b+i]
	}
	same, e := p.m.Equal(a, b, n)
	return same == want && e == boundsOf(fine)
}

func (p *pair) read(off, n int) bool {
	l, e := p.m.Read(off, n)
	if !p.lies(off, n) {
		return l == nil && e == api.ErrBounds
	}
	same := bytes.Equal(l, p.want[off:off+n])
	spoil(l)
	return same && e == api.OK
}

func (p *pair) write(off int, parts [][]byte) bool {
	var all []byte
	for _, part := range parts {
		all = append(all, part...)
	}
	fine := p.lies(off, len(all))
	if fine {
		copy(p.want[off:], all)
	}
	e := p.m.Write(off, parts...)
	for _, part := range parts {
		spoil(part)
	}
	return e == boundsOf(fine)
}

// TestApart: several memories are called in turn; behind every call each of them holds what its own calls say.
func TestApart(t *testing.T) {
	for seed := range 40 {
		r := rand.New(rand.NewSource(int64(seed)))
		pairs := make([]*pair, 3)
		for i := range pairs {
			size := r.Intn(20)
			pairs[i] = &pair{m: zero(t, size), want: make([]byte, size)}
		}
		for i := range 400 {
			promise, fine := pairs[r.Intn(len(pairs))].step(r)
			if !fine {
				t.Fatalf("%s: seed %d, call %d: a wrong answer", promise, seed, i)
			}
			for _, p := range pairs {
				if p.m.Len() != len(p.want) {
					t.Fatalf("%s: seed %d, call %d: Len %d, want %d", promise, seed, i, p.m.Len(), len(p.want))
				}
				holds(t, p.m, promise+" or P1.9", p.want)
			}
		}
	}
}

// TestSameCalls: what a memory answers hangs on its own calls alone, not on what was done elsewhere in between.
func TestSameCalls(t *testing.T) {
	run := func(between func()) []byte {
		m := begin(t, 10)
		between()
		answers(t, "P1.1: Grow", m.Grow(17), api.OK)
		between()
		answers(t, "P1.5: Copy", m.Copy(8, 3, 6), api.OK)
		between()
		return whole(t, m)
	}
	alone := run(func() {})
	other := begin(t, 30)
	beside := run(func() {
		answers(t, "P1.1: Grow", other.Grow(other.Len()+5), api.OK)
		answers(t, "P1.4: Fill", other.Fill(0, other.Len(), 0xEE), api.OK)
		begin(t, 10)
	})
	if !bytes.Equal(alone, beside) {
		t.Errorf("P1.9: % x alone, % x beside another memory", alone, beside)
	}
}

// TestReadersAtOnce: Len, Load, Equal and Read change nothing, so many may ask at once.
func TestReadersAtOnce(t *testing.T) {
	m := begin(t, 256)
	var all sync.WaitGroup
	for range 8 {
		all.Go(func() {
			for i := range 248 {
				v, e := m.Load(i, 1)
				same, e2 := m.Equal(i, i, 8)
				l, e3 := m.Read(i, 8)
				if v != uint64(mark(i)) || !same || len(l) != 8 || l[0] != mark(i) || e != api.OK || e2 != api.OK || e3 != api.OK || m.Len() != 256 {
					t.Errorf("P1.9: at %d: %#x, %v, % x", i, v, same, l)
				}
			}
		})
	}
	all.Wait()
	holds(t, m, "P1.9: Len, Load, Equal and Read", marks(256))
}
