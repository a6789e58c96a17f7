package table_test

import (
	"fmt"
	"math"
	"math/bits"
	"strings"
	"testing"

	"larder/api"
	"larder/arena"
	"larder/group"
	"larder/table"
)

// noSlots: numbers of slots that no table has, some of them with a valid number's low bits.
var noSlots = []int{math.MinInt, math.MinInt + 8, math.MinInt32, -65536, -16, -8, -1, 0, 1, 2, 3, 4, 5, 6, 7, 9, 10, 12, 15, 17, 24, 48, 63, 65, 96, 1000, 65535, 65537, 98304, 131072, 1 << 32, 1<<32 + 8, 1 << 62, math.MaxInt - 7, math.MaxInt}

// noDepths: depths that no table has.
var noDepths = []int{math.MinInt, math.MinInt + 3, -7, -1, 7, 8, 64, 256, 1 << 32, 1<<32 + 1, math.MaxInt}

// TestNewIsEmpty: in blocks that held other bytes once. (The bench holds all bytes and all that is told against an empty table.)
func TestNewIsEmpty(t *testing.T) {
	for _, d := range descriptors {
		for _, slots := range sizes {
			for depth := 0; depth <= 6; depth++ {
				b := set(t, d, slots, depth)
				want := api.TableStat{Slots: slots, Left: most[slots], Depth: depth, Groups: b.groups}
				if st, e := b.tb.Stat(); st != want || e != api.OK {
					t.Fatalf("P8.1: Stat of a new table: %+v, error %d, want %+v", st, e, want)
				}
				for i := range slots / 8 {
					bytes, _ := b.a.Read(b.groups+i*b.l.Group, b.l.Group)
					alike(t, fmt.Sprint("P8.1: group ", i), bytes, strings.Repeat("\x80", 8)+strings.Repeat("\x00", b.l.Group-8))
				}
			}
		}
	}
}

// TestNewHeader: the header's words of a new table, each by its place.
func TestNewHeader(t *testing.T) {
	b := set(t, [5]int{5, 4, 1, 4, 64}, 64, 5)
	for at, want := range map[int]int{0: 2, 8: 0, 16: 0, 24: 0, 32: 64, 40: 56, 48: 5, 56: b.groups} {
		if v, e := b.a.Load(b.off+at, 8); v != uint64(want) || e != api.OK {
			t.Errorf("P8.1: the header's word at %d is %d, error %d, want %d", at, v, e, want)
		}
	}
	if size, e := b.a.Size(b.off); size != 64 || e != api.OK {
		t.Errorf("P8.1: the header's block has %d bytes, error %d", size, e)
	}
	if size, e := b.a.Size(b.groups); size != 2048 || e != api.OK {
		t.Errorf("P8.1: the groups' block, for 8 times 200 bytes, has %d, error %d", size, e)
	}
}

// TestNewOfEveryNumberOfSlots: every number about those that are valid.
func TestNewOfEveryNumberOfSlots(t *testing.T) {
	a, l := open(t, 0), lay(t, descriptors[0])
	for slots := -70000; slots <= 140000; slots++ {
		want := api.ErrSlots
		if slots >= 8 && slots <= 65536 && bits.OnesCount(uint(slots)) == 1 {
			want = api.ErrMemory // the arena has room for nothing
		}
		if tb, e := table.New(a, l, slots, 0); e != want || tb != (table.Table{}) {
			t.Fatalf("P8.1: New of %d slots: error %d, want %d", slots, e, want)
		}
	}
}

// TestNewRefuses: wrong slots come ahead of a wrong depth, that ahead of the memory; nothing changes.
func TestNewRefuses(t *testing.T) {
	l := lay(t, descriptors[3])
	for _, limit := range []int{0, 1 << 16} {
		a := open(t, limit)
		before := look(t, a)
		refused := func(slots, depth int, want api.Errno) {
			t.Helper()
			what := fmt.Sprintf("P8.1: New(%d, %d) under the limit %d", slots, depth, limit)
			tb, e := table.New(a, l, slots, depth)
			answers(t, what, e, want)
			if tb != (table.Table{}) {
				t.Fatalf("%s answers a table beside the error", what)
			}
			like(t, what, a, before)
		}
		for _, slots := range noSlots {
			for _, depth := range append([]int{0, 6}, noDepths...) {
				refused(slots, depth, api.ErrSlots)
			}
		}
		for _, slots := range []int{8, 16, 64, 65536} {
			for _, depth := range noDepths {
				refused(slots, depth, api.ErrDepth)
			}
		}
	}
}

// TestNewAtTheLimit: limits at which the two blocks just fit and just don't; where they don't, not even the header's was taken for a while.
func TestNewAtTheLimit(t *testing.T) {
	for _, d := range descriptors {
		l := lay(t, d)
		for _, slots := range sizes {
			class := arena.Class(slots / 8 * l.Group)
			for _, held := range []int{0, 48} {
				for _, limit := range []int{held, held + 63, held + 64, held + class, held + 64 + class - 1} {
					a := open(t, limit)
					if held > 0 {
						a.Alloc(held)
					}
					before := look(t, a)
					_, e := table.New(a, l, slots, 0)
					what := fmt.Sprintf("P8.1: New of %d slots, %d bytes held, limit %d", slots, held, limit)
					answers(t, what, e, api.ErrMemory)
					like(t, what, a, before)
				}
				a := open(t, held+64+class)
				if held > 0 {
					a.Alloc(held)
				}
				tb, e := table.New(a, l, slots, 0)
				answers(t, "P8.1: New where it just fits", e, api.OK)
				if st, _ := tb.Stat(); tb.Off() != 16+held || st.Groups != 16+held+64 || a.Live() != a.Limit() || a.End() != 16+held+64+class {
					t.Errorf("P8.1: the header lies at %d, the groups at %d, live %d of %d", tb.Off(), st.Groups, a.Live(), a.Limit())
				}
			}
		}
	}
}

// TestNewOfManySlots: the greatest that a block can hold, and the first that it can't.
func TestNewOfManySlots(t *testing.T) {
	l := lay(t, [5]int{1, 0, 1, 1, 16})
	a := open(t, api.MaxLimit)
	tb, e := table.New(a, l, 32768, 6)
	answers(t, "P8.1: New of 32768 slots", e, api.OK)
	if st, e := tb.Stat(); st != (api.TableStat{Slots: 32768, Left: 28672, Depth: 6, Groups: 80}) || e != api.OK {
		t.Errorf("P8.1: Stat = %+v, error %d", st, e)
	}
	for _, i := range []int{0, 1, 2047, 4094, 4095} {
		g, e := tb.Group(i)
		if w, f := g.Word(); w != 0x8080808080808080 || e != api.OK || f != api.OK {
			t.Errorf("P8.1: group %d has the word %#x, errors %d, %d", i, w, e, f)
		}
	}
	h := hash(4095, 9)
	puts(t, tb, h, "a", "", 3, api.PutAdded)
	isIn(t, tb, h, "a", 32760)
	_, e = table.New(a, l, 65536, 6)
	answers(t, "P8.1: New of 65536 slots", e, api.ErrMemory)
}

// TestAtLooksAtNothing: any number, and the same value as New's where it is the same place.
func TestAtLooksAtNothing(t *testing.T) {
	b := set(t, descriptors[3], 16, 2)
	before := look(t, b.a)
	for _, off := range []int{math.MinInt, -1 << 32, -64, -1, 0, 1, 15, 16, b.off, b.off + 1, b.off + 8, b.groups, b.a.End(), 1 << 40, math.MaxInt} {
		tb := table.At(b.a, b.l, off)
		if tb.Off() != off || tb.Arena() != b.a || tb.Layout() != b.l {
			t.Errorf("P8.2: At(%d): offset %d, arena %p, layout %+v", off, tb.Off(), tb.Arena(), tb.Layout())
		}
	}
	if b.tb.Off() != b.off || b.tb.Arena() != b.a || b.tb.Layout() != b.l {
		t.Errorf("P8.2: New: offset %d, want %d; arena %p, layout %+v", b.tb.Off(), b.off, b.tb.Arena(), b.tb.Layout())
	}
	like(t, "P8.2: At", b.a, before)
}

// TestAtOutsideOfAllBlocks: nothing was ever there; that no call panics is all that is asked, and each of them is refused as a dead table's is.
func TestAtOutsideOfAllBlocks(t *testing.T) {
	a, l := open(t, 4096), lay(t, descriptors[0])
	if _, e := table.New(a, l, 8, 0); e != api.OK {
		t.Fatal(e)
	}
	for _, off := range []int{math.MinInt, math.MinInt + 8, -16, 0, 8, a.End(), a.End() + 64, 1 << 40, math.MaxInt - 63, math.MaxInt} {
		for _, c := range calls {
			refuses(t, c, table.At(a, l, off), args{h: 5, key: "a", elem: "x"}, api.ErrDead)
		}
	}
}

// TestTwoValuesAreOneTable: what is done by one is seen by the other.
func TestTwoValuesAreOneTable(t *testing.T) {
	benches(t, func(b *bench) {
		first, second := b.tb, table.At(b.a, b.l, b.off)
		for i := range most[len(b.p.cells)] {
			b.tb = []table.Table{first, second}[i%2]
			b.put(hash(uint64(i), i), 1+i, 2+i, i)
			b.tb = []table.Table{second, first}[i%2]
			b.holds("P8.2: put by one value, asked by another")
		}
		answers(t, "Retire", first.Retire(77), api.OK)
		b.p.kind, b.p.next = 4, 77
		b.tb = second
		b.holds("P8.2: retired by another value")
	})
}

// TestStatTellsEachWord: each word of the header has a number of its own.
func TestStatTellsEachWord(t *testing.T) {
	b := set(t, descriptors[0], 64, 3)
	for i := range 11 {
		b.put(hash(uint64(i), i), 1+i, 2+i, i)
	}
	b.tb.Pin(1 << 40)
	b.tb.SetNext(-99)
	b.tb.AddLeft(-6)
	want := api.TableStat{Used: 11, Slots: 64, Left: 39, Depth: 3, Pins: 1 << 40, Next: -99, Groups: b.groups}
	if st, e := b.tb.Stat(); st != want || e != api.OK {
		t.Errorf("P8.3: Stat = %+v, error %d, want %+v", st, e, want)
	}
	b.tb.Retire(1 << 50)
	want.Next, want.Retired = 1<<50, true
	if st, e := b.tb.Stat(); st != want || e != api.OK {
		t.Errorf("P8.3: Stat of a retired one = %+v, error %d, want %+v", st, e, want)
	}
	for at, want := range map[int]int{0: 4, 8: 1 << 40, 16: 1 << 50, 24: 11, 32: 64, 40: 39, 48: 3, 56: b.groups} {
		if v, e := b.a.Load(b.off+at, 8); v != uint64(want) || e != api.OK {
			t.Errorf("P8.3: the header's word at %d is %d, error %d, want %d", at, v, e, want)
		}
	}
}

func TestCellAndGroupByNumber(t *testing.T) {
	benches(t, func(b *bench) {
		b.crowd()
		slots := len(b.p.cells)
		for i := range slots / 8 {
			want := group.At(b.a, b.l, b.groups+i*b.l.Group)
			if g, e := b.tb.Group(i); g != want || e != api.OK {
				t.Fatalf("P8.10: Group(%d) is another one, or error %d", i, e)
			}
		}
		for _, n := range []int{math.MinInt, math.MinInt + 8, -slots, -8, -1, slots, slots + 1, 2 * slots, 1 << 32, 1<<32 + 1, 1 << 61, math.MaxInt} {
			refuses(t, named("Cell"), b.tb, args{n: n}, api.ErrSlot)
			refuses(t, named("Group"), b.tb, args{n: n}, api.ErrSlot)
		}
		for n := slots / 8; n < slots; n++ {
			refuses(t, named("Group"), b.tb, args{n: n}, api.ErrSlot)
		}
	})
}

// TestGroupIsThePlace: what is done through the group is seen through the table.
func TestGroupIsThePlace(t *testing.T) {
	b := set(t, descriptors[3], 64, 0)
	for i := range 8 {
		g, e := b.tb.Group(i)
		answers(t, "P8.10: Group", e, api.OK)
		answers(t, "Fill", g.Fill(i, 9, text(5, i), text(4, i), i), api.OK)
		cellIs(t, b.tb, 9*i, api.Cell{Kind: api.CellFull, Tag: 9, Key: text(5, i), Elem: text(4, i), Birth: i})
	}
}
