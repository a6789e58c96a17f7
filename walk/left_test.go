package walk_test

import (
	"fmt"
	"math/rand"
	"slices"
	"testing"

	"larder/api"
	"larder/arena"
	"larder/oracle"
	"larder/small"
	"larder/swiss"
	"larder/table"
	"larder/walk"
)

// free: the places whose bytes a walk may change: the pins and the next of each block that a walk may stand on, and the head of the map's list of the retired.
func free(t *testing.T, m swiss.Map) map[int]bool {
	t.Helper()
	may := map[int]bool{}
	for i := range 8 {
		may[m.Off()+48+i] = true
	}
	var offs []int
	if s, yes, _ := m.Small(); yes {
		offs = append(offs, s.Off())
	}
	if d, yes, _ := m.Dir(); yes {
		for _, off := range d.Tables() {
			offs = append(offs, off)
		}
	}
	retired, e := m.Retired()
	answers(t, "Retired", e, api.OK)
	for _, off := range append(offs, retired...) {
		for i := range 16 {
			may[off+8+i] = true
		}
	}
	return may
}

// retiredBlocks: the blocks of the retired ones, by their offsets.
func retiredBlocks(a *arena.Arena, m swiss.Map) map[int]bool {
	blocks := map[int]bool{}
	offs, _ := m.Retired()
	for _, off := range offs {
		blocks[off] = true
		if kind, _ := a.Load(off, 8); kind == api.KindTableRetired {
			st, _ := table.At(a, m.Layout(), off).Stat()
			blocks[st.Groups] = true
		}
	}
	return blocks
}

// TestOnlyPins: P13.8: a Next, a Close and a range over Rest change no byte of the arena but pins and the list of the retired, take no block, and free none but a retired one's.
func TestOnlyPins(t *testing.T) {
	for i, k := range kinds {
		t.Run(k.name, func(t *testing.T) {
			t.Parallel()
			r := rand.New(rand.NewSource(int64(i)))
			l := lay(t, descriptors[0])
			w := begin(t, 1<<18, l, ask(t, k.over(1)...))
			w.quiet = true
			x := w.make(l, 7, 0)
			freed := 0
			for n := range 600 {
				w.put(x, 1+r.Intn(60), n)
				if n%4 == 0 {
					w.delete(x, 1+r.Intn(60))
				}
				if n%90 == 89 {
					w.clear(x, uint64(n))
				}
				if len(w.walks) < 8 {
					w.open(x, r.Uint64(), r.Uint64())
				}
				was, may, old := look(t, w.a), free(t, x.m), retiredBlocks(w.a, x.m)
				s := w.walks[r.Intn(len(w.walks))]
				switch r.Intn(6) {
				case 0:
					w.close(s)
				case 1:
					w.rest(s, s.w.Rest(), 1+r.Intn(5), nil)
				default:
					w.next(s)
				}
				now := look(t, w.a)
				for off, bytes := range was.bytes {
					got, live := now.bytes[off]
					if !live {
						freed++
					}
					if !live && !old[off] {
						t.Fatalf("P13.8: the block at %d is free, and was no retired one's", off)
					}
					for j := range len(got) {
						if got[j] != bytes[j] && !may[off+j] {
							t.Fatalf("P13.8: in the block at %d the byte %d has changed from %d to %d", off, j, bytes[j], got[j])
						}
					}
				}
				if len(now.bytes) > len(was.bytes) || now.end != was.end {
					t.Fatal("P13.8: a walk has taken a block")
				}
			}
			if freed < 4 {
				t.Errorf("the run is too tame: %d blocks were freed by walks", freed)
			}
		})
	}
}

// figure: what a map is, but for where it lies, its pins and its retired ones: its header's numbers, and each entry's table with all its slots.
func figure(t *testing.T, m swiss.Map) []string {
	t.Helper()
	st, e := m.Stat()
	answers(t, "Stat", e, api.OK)
	list := []string{fmt.Sprint(st.Used, st.Seed, st.Births, st.Epoch, st.Depth, st.Root == 0)}
	cells := func(n int, at func(int) (api.Cell, api.Errno)) {
		for i := range n {
			c, e := at(i)
			answers(t, "Cell", e, api.OK)
			list = append(list, fmt.Sprintf("%#v", c))
		}
	}
	if s, yes, _ := m.Small(); yes {
		st, _ := s.Stat()
		list = append(list, fmt.Sprint(st.Used, st.Retired))
		cells(8, s.Cell)
	}
	if d, yes, _ := m.Dir(); yes {
		for i, off := range d.Tables() {
			tb := table.At(m.Arena(), m.Layout(), off)
			st, _ := tb.Stat()
			list = append(list, fmt.Sprint("table ", i, st.Used, st.Slots, st.Left, st.Depth, st.Retired))
			cells(st.Slots, tb.Cell)
		}
	}
	return list
}

// pinsOf: the sum of all pins of a map.
func pinsOf(m swiss.Map) int {
	sum := 0
	if s, yes, _ := m.Small(); yes {
		st, _ := s.Stat()
		sum += st.Pins
	}
	if d, yes, _ := m.Dir(); yes {
		for _, off := range d.Tables() {
			st, _ := table.At(m.Arena(), m.Layout(), off).Stat()
			sum += st.Pins
		}
	}
	offs, _ := m.Retired()
	for _, off := range offs {
		st, _ := small.At(m.Arena(), m.Layout(), off).Stat() // the words of both headers lie alike
		sum += st.Pins
	}
	return sum
}

// sizes: the live blocks' sizes, sorted.
func sizes(a *arena.Arena) []int {
	var list []int
	for _, size := range a.Blocks() {
		list = append(list, size)
	}
	slices.Sort(list)
	return list
}

// TestWithAndWithout: P13.8: one script is done to two maps; over one of them walks go. Every answer of the map's calls is the same, and so are all slots of all tables; a walk stands on one block at most; and when all walks are done the two have the same blocks.
func TestWithAndWithout(t *testing.T) {
	for i, k := range kinds {
		t.Run(k.name, func(t *testing.T) {
			t.Parallel()
			r := rand.New(rand.NewSource(int64(10 + i)))
			l := lay(t, [5]int{1, 1, 1, 1, []int{16, 64}[i%2]})
			o := ask(t, k.over(1)...)
			with, without := bareMap(t, l, o), bareMap(t, l, o)
			var walks []*walk.Walk
			retired := 0
			for n := range 1500 {
				calls(t, r, n, with, without)
				if offs, _ := with.Retired(); len(offs) > 0 {
					retired++
				}
				walks = strolls(t, r, with, walks)
				if pins := pinsOf(with); pins > len(walks) {
					t.Fatalf("P13.8: %d pins of %d walks", pins, len(walks))
				}
				if n%100 == 99 {
					for _, v := range walks {
						answers(t, "P13.4: Close", v.Close(), api.OK)
					}
					walks = nil
					if offs, e := with.Retired(); len(offs) != 0 || e != api.OK || pinsOf(with) != 0 {
						t.Fatalf("P13.8: all walks are done; Retired = %v, error %d, %d pins", offs, e, pinsOf(with))
					}
					if got, want := sizes(with.Arena()), sizes(without.Arena()); !slices.Equal(got, want) {
						t.Fatalf("P13.8: all walks are done; the blocks are %v, want %v", got, want)
					}
				}
				if n%10 == 0 && !slices.Equal(figure(t, with), figure(t, without)) {
					t.Fatal("P13.8: a map over which walks go is not like one over which none goes")
				}
			}
			if retired < 20 {
				t.Errorf("the run is too tame: %d times something was retired", retired)
			}
		})
	}
}

func bareMap(t *testing.T, l api.Layout, o *oracle.Oracle) swiss.Map {
	t.Helper()
	m, e := swiss.Make(fresh(t, 1<<20), l, o, 7, 0)
	answers(t, "Make", e, api.OK)
	return m
}

// calls: one call that changes both maps, and those that read: their answers are alike.
func calls(t *testing.T, r *rand.Rand, n int, with, without swiss.Map) {
	t.Helper()
	key, elem := text(1, r.Intn(80)), text(1, n)
	alike := func(name string, one, two any) {
		t.Helper()
		if one != two {
			t.Fatalf("P13.8: %s(%q) with walks: %v, without: %v", name, key, one, two)
		}
	}
	asked := func(name string, ask func(m swiss.Map) (any, api.Errno)) {
		t.Helper()
		one, e := ask(with)
		two, f := ask(without)
		alike(name, one, two)
		alike(name, e, f)
	}
	switch at := r.Intn(200); {
	case at == 0:
		asked("Clear", func(m swiss.Map) (any, api.Errno) { return nil, m.Clear(uint64(n)) })
	case at < 70+n/100%2*60:
		asked("Delete", func(m swiss.Map) (any, api.Errno) { return m.Delete(key) })
	default:
		asked("Put", func(m swiss.Map) (any, api.Errno) { return m.Put(key, elem) })
	}
	for range 3 {
		key = text(1, r.Intn(80))
		asked("Get", func(m swiss.Map) (any, api.Errno) {
			elem, yes, e := m.Get(key)
			return fmt.Sprint(elem, yes), e
		})
		asked("Cell", func(m swiss.Map) (any, api.Errno) { return m.Cell(key) })
		asked("Probes", func(m swiss.Map) (any, api.Errno) { return m.Probes(key) })
	}
	asked("Len", func(m swiss.Map) (any, api.Errno) { return m.Len() })
	asked("Slots", func(m swiss.Map) (any, api.Errno) { return m.Slots() })
}

// strolls: one step of a walk, a walk is opened, or one is closed: the walks that are not done.
func strolls(t *testing.T, r *rand.Rand, m swiss.Map, walks []*walk.Walk) []*walk.Walk {
	t.Helper()
	if len(walks) < 6 {
		v, e := walk.Open(m, r.Uint64(), r.Uint64())
		answers(t, "P13.1: Open", e, api.OK)
		walks = append(walks, v)
	}
	v := walks[r.Intn(len(walks))]
	if r.Intn(20) == 0 {
		answers(t, "P13.4: Close", v.Close(), api.OK)
	} else {
		_, _, e := v.Next()
		answers(t, "P13.2: Next", e, api.OK)
	}
	return slices.DeleteFunc(walks, (*walk.Walk).Done)
}

// TestSameBytes: P13.8: where no table is replaced, two arenas, with walks and without, are alike byte by byte but for pins, and wholly so when all walks are done.
func TestSameBytes(t *testing.T) {
	for _, hint := range []int{0, 9, 100, 800} {
		for _, k := range kinds {
			l := lay(t, descriptors[0])
			o := ask(t, k.over(1)...)
			var both []swiss.Map
			for range 2 {
				m, e := swiss.Make(fresh(t, 1<<20), l, o, 7, hint)
				answers(t, "Make", e, api.OK)
				for i := range 8 {
					m.Put(text(1, 1+i), "x")
				}
				both = append(both, m)
			}
			var walks []*walk.Walk
			for i := range 8 {
				v, e := walk.Open(both[0], uint64(i), uint64(i))
				answers(t, "P13.1: Open", e, api.OK)
				walks = append(walks, v)
				for range i {
					_, _, e := v.Next()
					answers(t, "P13.2: Next", e, api.OK)
				}
				for _, m := range both {
					m.Put(text(1, 1+i), "y")
					m.Delete(text(1, 1+i*3%8))
					m.Put(text(1, 1+i*3%8), "z")
				}
				bytesAlike(t, both[0], both[1], true)
			}
			for i, v := range walks {
				if i%2 == 0 {
					answers(t, "P13.4: Close", v.Close(), api.OK)
				}
				for range v.Rest() {
				}
			}
			bytesAlike(t, both[0], both[1], false)
		}
	}
}

// bytesAlike: two arenas with a map each at the same place; their pins may differ.
func bytesAlike(t *testing.T, with, without swiss.Map, pins bool) {
	t.Helper()
	one, two := look(t, with.Arena()), look(t, without.Arena())
	if !slices.Equal(one.parts, two.parts) {
		t.Fatalf("P13.8: the blocks are %v with walks, %v without", one.parts, two.parts)
	}
	may := map[int]bool{}
	if pins {
		may = free(t, with)
	}
	for off, bytes := range one.bytes {
		for j := range len(bytes) {
			if bytes[j] != two.bytes[off][j] && !may[off+j] {
				t.Fatalf("P13.8: in the block at %d the byte %d is %d with walks, %d without", off, j, bytes[j], two.bytes[off][j])
			}
		}
	}
}
