package arena_test

import (
	"fmt"
	"strings"
	"testing"

	"larder/api"
	"larder/arena"
)

func TestExample1(t *testing.T) {
	for limit, want := range map[int]api.Errno{-1: api.ErrLimit, 2097152: api.OK, 2097153: api.ErrLimit, 0: api.OK} {
		if a, e := arena.New(limit); e != want || (a == nil) != (want != api.OK) {
			t.Errorf("New(%d) = %v, error %d, want error %d", limit, a, e, want)
		}
	}
	a := begin(t, 0)
	allocs(t, a, 1, 0, api.ErrMemory)
	allocs(t, a, 0, 0, api.ErrAsk)
	takes(t, a, nil, nil)
}

func TestExamples2And3(t *testing.T) {
	a := begin(t, 100)
	allocs(t, a, 20, 16, api.OK)
	stands(t, a, 32, 48)
	allocs(t, a, 1, 48, api.OK)
	stands(t, a, 48, 64)
	allocs(t, a, 40, 64, api.OK)
	stands(t, a, 96, 112)
	allocs(t, a, 1, 0, api.ErrMemory)

	answers(t, "Fill", a.Fill(48, 16, 0xEE), api.OK)
	answers(t, "Free(48)", a.Free(48), api.OK)
	stands(t, a, 80, 112)
	allocs(t, a, 16, 48, api.OK)
	reads(t, a, "all zero", 48, strings.Repeat("\x00", 16))
	stands(t, a, 96, 112)
	answers(t, "Free(48, 16)", a.Free(48, 16), api.OK)
	stands(t, a, 48, 112)
	allocs(t, a, 3, 48, api.OK)
	allocs(t, a, 3, 112, api.OK)
	stands(t, a, 80, 128)
	allocs(t, a, 32, 0, api.ErrMemory)
	answers(t, "Free(112)", a.Free(112), api.OK)
	stands(t, a, 64, 128)
	allocs(t, a, 32, 16, api.OK)
	stands(t, a, 96, 128)
}

// four: an arena as example 4 leaves it.
func four(t *testing.T) *arena.Arena {
	t.Helper()
	a := begin(t, 4096)
	takes(t, a, []int{16, 16, 30}, []int{16, 32, 48})
	stands(t, a, 64, 80)
	answers(t, "Free(32, 16)", a.Free(32, 16), api.OK)
	takes(t, a, []int{16, 16, 16}, []int{16, 32, 80})
	return a
}

func TestExamples4To6(t *testing.T) {
	a := four(t)
	before := look(t, a)
	for want, sizes := range map[api.Errno][]int{api.ErrAsk: {16, 0, 2000000}, api.ErrMemory: {16, 2000000}} {
		if l, e := a.AllocAll(sizes...); len(l) != 0 || e != want {
			t.Errorf("AllocAll(%v) = %v, error %d, want error %d", sizes, l, e, want)
		}
	}
	answers(t, "Free(16, 16)", a.Free(16, 16), api.ErrBlock)
	answers(t, "Free(17)", a.Free(17), api.ErrBlock)
	answers(t, "Free(0)", a.Free(0), api.ErrBlock)
	kept(t, "refused calls", a, before)
}

func TestExample7(t *testing.T) {
	a := four(t)
	answers(t, "Free(80)", a.Free(80), api.OK)
	for _, c := range []struct {
		off, width int
		e          api.Errno
	}{{76, 4, api.OK}, {77, 4, api.ErrDead}, {76, 3, api.ErrWidth}} {
		if v, e := a.Load(c.off, c.width); v != 0 || e != c.e {
			t.Errorf("Load(%d, %d) = %d, error %d, want error %d", c.off, c.width, v, e, c.e)
		}
	}
	readsError(t, a, 80, 0, api.OK)
	readsError(t, a, 81, 0, api.ErrDead)
	readsError(t, a, 60, -1, api.ErrDead)
}

func readsError(t *testing.T, a *arena.Arena, off, n int, want api.Errno) {
	t.Helper()
	if s, e := a.Read(off, n); s != "" || e != want {
		t.Errorf("Read(%d, %d) = %q, error %d, want error %d", off, n, s, e, want)
	}
}

func TestExample8(t *testing.T) {
	a := begin(t, 4096)
	takes(t, a, []int{16, 16}, []int{16, 32})
	readsError(t, a, 16, 32, api.ErrDead)
	readsError(t, a, 32, 0, api.OK)
}

func TestExample9(t *testing.T) {
	a := begin(t, 4096)
	allocs(t, a, 16, 16, api.OK)
	answers(t, "Store(16, 2, 0x12345)", a.Store(16, 2, 0x12345), api.OK)
	answers(t, "Write", a.Write(18, "ab", "", "c"), api.OK)
	reads(t, a, "Store and Write", 16, "\x45\x23abc\x00")
}

func TestExample10(t *testing.T) {
	if got, want := fmt.Sprint(four(t).Parts()), "[{16 16 true} {32 16 true} {48 32 true} {80 16 true}]"; got != want {
		t.Errorf("Parts is %s, want %s", got, want)
	}
	a, e := arena.Restore(4096, []api.Part{gone(16, 16), part(32, 48)}, strings.Repeat("x", 48))
	answers(t, "Restore", e, api.OK)
	stands(t, a, 48, 80)
	allocs(t, a, 5, 16, api.OK)
	allocs(t, a, 5, 80, api.OK)
	refuses(t, 4096, []api.Part{gone(16, 16), part(32, 48)}, 47, api.ErrBytes)
	refuses(t, 4096, []api.Part{part(16, 24)}, 24, api.ErrParts)
	refuses(t, 4096, []api.Part{part(32, 16)}, 16, api.ErrParts)
	refuses(t, 47, []api.Part{part(16, 48)}, 0, api.ErrParts)
	refuses(t, 64, []api.Part{part(16, 48), part(64, 32)}, 80, api.ErrMemory)
}

func TestExample11(t *testing.T) {
	a := begin(t, 4096)
	allocs(t, a, 16, 16, api.OK)
	answers(t, "Write", a.Write(16, "\x01\x02\x03\x04"), api.OK)
	answers(t, "Copy(17, 16, 3)", a.Copy(17, 16, 3), api.OK)
	reads(t, a, "Copy", 16, "\x01\x01\x02\x03")
}
