package group_test

import (
	"fmt"
	"testing"

	"larder/api"
	"larder/arena"
	"larder/group"
)

// two: what a call of two results answered, as a text.
func two[R any](r R, e api.Errno) string { return fmt.Sprintf("%q %d", fmt.Sprint(r), e) }

// TestExamples: the chapter's table, from its first line to its last.
func TestExamples(t *testing.T) {
	l := lay(t, [5]int{2, 1, 1, 1, 16})
	if l.ElemOff != 2 || l.BirthOff != 8 || l.Slot != 16 || l.Group != 136 {
		t.Fatalf("the layout is %+v", l)
	}
	a, _ := arena.New(4096)
	if off, e := a.Alloc(272); off != 16 || e != api.OK {
		t.Fatalf("Alloc(272) = %d, error %d", off, e)
	}
	g, h := group.At(a, l, 16), group.At(a, l, 152)
	zero, none := api.Cell{}, api.Cell{Kind: api.CellDeleted}
	step := func(name, got, want string) {
		t.Helper()
		if got != want {
			t.Fatalf("%s = %s, want %s", name, got, want)
		}
	}
	one := func(name string, got, want api.Errno) { t.Helper(); answers(t, name, got, want) }

	step("Cell(3) of zeros", two(g.Cell(3)), two(api.Cell{Kind: api.CellFull, Key: "\x00\x00", Elem: "\x00"}, api.OK))
	one("g.Reset()", g.Reset(), api.OK)
	one("h.Reset()", h.Reset(), api.OK)
	step("g.Cell(3)", two(g.Cell(3)), two(zero, api.OK))
	one("Fill of 3", g.Fill(3, 5, "ab", "x", 9), api.OK)
	step("the bytes of slot 3", two(a.Read(16+8+48, 16)), two("abx\x00\x00\x00\x00\x00\x09\x00\x00\x00\x00\x00\x00\x00", api.OK))
	one("Fill of 1", g.Fill(1, 5, "ab", "y", 10), api.OK)
	step("g.Find(5, ab)", two(g.Find(5, "ab")), two(1, api.OK))
	step("g.Find(6, ab)", two(g.Find(6, "ab")), two(8, api.OK))
	step("h.Find(5, ab)", two(h.Find(5, "ab")), two(8, api.OK))
	step("g.Find(128, abc)", two(g.Find(128, "abc")), two(0, api.ErrTag))
	step("g.Find(5, abc)", two(g.Find(5, "abc")), two(0, api.ErrKeyWidth))
	step("g.Find(-1, ab)", two(g.Find(-1, "ab")), two(0, api.ErrTag))
	one("a wrong slot", g.Fill(8, 128, "", "", -1), api.ErrSlot)
	one("a wrong tag", g.Fill(7, 128, "", "", -1), api.ErrTag)
	one("a wrong key", g.Fill(7, 0, "", "", -1), api.ErrKeyWidth)
	one("a wrong elem", g.Fill(7, 0, "ab", "", -1), api.ErrElemWidth)
	one("a wrong birth", g.Fill(7, 0, "ab", "x", -1), api.ErrBirth)
	one("SetElem(1, z)", g.SetElem(1, "z"), api.OK)
	one("SetElem(2, z)", g.SetElem(2, "z"), api.ErrVacant)
	one("SetElem(2, zz)", g.SetElem(2, "zz"), api.ErrElemWidth)
	one("SetElem(9, zz)", g.SetElem(9, "zz"), api.ErrSlot)
	one("Erase(1, true)", g.Erase(1, true), api.OK)
	one("Erase(6, true)", g.Erase(6, true), api.OK)
	step("Find(5, ab)", two(g.Find(5, "ab")), two(3, api.OK))
	step("Cell(1)", two(g.Cell(1)), two(none, api.OK))
	step("Prune()", two(g.Prune()), two(2, api.OK))
	step("Prune() again", two(g.Prune()), two(0, api.OK))
	same(t, "Cells()", gone(g), []given{{3, api.Cell{Kind: api.CellFull, Tag: 5, Key: "ab", Elem: "x", Birth: 9}}})
	step("Word() of one behind the block", two(group.At(a, l, 17+384-136).Word()), two(0, api.ErrDead))
	step("Cell(0) of no layout", two(group.At(a, api.Layout{}, 16).Cell(0)), two(zero, api.ErrDead))
	step("Cell(8) of no layout", two(group.At(a, api.Layout{}, 16).Cell(8)), two(zero, api.ErrSlot))
	one("Free(16)", a.Free(16), api.OK)
	step("Find(5, ab) of a free block", two(g.Find(5, "ab")), two(0, api.ErrDead))
	one("SetElem(3, zz) of a free block", g.SetElem(3, "zz"), api.ErrElemWidth)
}
