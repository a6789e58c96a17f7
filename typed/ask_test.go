package typed_test

import (
	"testing"

	"larder/api"
	"larder/store"
	"larder/typed"
)

// asks: Get, Put and Delete of a key with a value are all refused by that error, with zeros beside it; and nothing changes in the store.
func asks[K any, V comparable](t *testing.T, s *store.Store, m *typed.Map[K, V], key K, v V, get, put, del api.Errno) {
	t.Helper()
	was := state(s)
	var zero V
	if got, yes, e := m.Get(key); got != zero || yes || e != get {
		t.Errorf("P21.10: Get(%v) = %v, %v, error %d, want %d", key, got, yes, e, get)
	}
	if put != api.OK {
		if yes, e := m.Put(key, v); yes || e != put {
			t.Errorf("P21.10: Put(%v, %v) = %v, error %d, want %d", key, v, yes, e, put)
		}
	}
	if yes, e := m.Delete(key); yes || e != del {
		t.Errorf("P21.10: Delete(%v) = %v, error %d, want %d", key, yes, e, del)
	}
	if state(s) != was {
		t.Errorf("P21.10: calls with %v and %v, that were refused or found nothing, have changed the store", key, v)
	}
}

// TestAskReleased: P21.10: of a map that is released each call answers ErrGone first, whatever the key and the value.
func TestAskReleased(t *testing.T) {
	s := world(t)
	m := used(t, s, text(3), text(7), words)
	r := used(t, s, raw(4, 1), raw(8, 1), words)
	c := used(t, s, whole, truth, crowd)
	if e := s.Release(words, crowd); e != api.OK {
		t.Fatalf("Release: error %d", e)
	}
	for _, key := range []string{"ab", "abc", "x", "", "abcd"} {
		for _, v := range []string{"", "abcdefg", "abcdefgh"} {
			asks(t, s, m, key, v, api.ErrGone, api.ErrGone, api.ErrGone)
		}
	}
	for _, key := range []string{"four", "odd", "none"} {
		for _, v := range []string{"eight888", "odd", "none"} {
			asks(t, s, r, key, v, api.ErrGone, api.ErrGone, api.ErrGone)
		}
	}
	asks(t, s, c, -700, true, api.ErrGone, api.ErrGone, api.ErrGone)
	if n, e := m.Len(); n != 0 || e != api.ErrGone {
		t.Errorf("P21.10: Len = %d, error %d", n, e)
	}
	if m.Handle() != words || c.Handle() != crowd {
		t.Errorf("P21.10: the handles %d and %d", m.Handle(), c.Handle())
	}
}

// TestAskHandleFirst: P21.10: a codec is not asked to lay anything, where the handle is refused.
func TestAskHandleFirst(t *testing.T) {
	s := begin(t, 65536)
	asked := 0
	c := own[string]{4, 1, func(v string) (string, bool) { asked++; return v, true }, func(s string) string { asked++; return s }}
	m := made[string, string](t, s, c, c, 0)
	s.Release(m.Handle())
	m.Get("four")
	m.Put("four", "five")
	m.Delete("four")
	for range m.All() {
	}
	if asked != 0 {
		t.Errorf("P21.10: the codecs of a map that is released were asked %d times", asked)
	}
}

// TestAskKeys: P21.10: ErrKeyWidth for a key that can't be laid, ahead of the value's.
func TestAskKeys(t *testing.T) {
	s := begin(t, 65536)
	m := made(t, s, text(3), text(2), 5)
	puts(t, m, "abc", "x", true)
	for _, key := range []string{"abcd", "\x00\x00\x00\x00", filler(300)} {
		for _, v := range []string{"", "xy", "xyz", filler(300)} {
			asks(t, s, m, key, v, api.ErrKeyWidth, api.ErrKeyWidth, api.ErrKeyWidth)
		}
	}
	for _, v := range []string{"xyz", filler(300)} {
		asks(t, s, m, "new", v, api.OK, api.ErrElemWidth, api.OK)
		if yes, e := m.Put("abc", v); yes || e != api.ErrElemWidth {
			t.Errorf("P21.10: Put of a key that is there: %v, error %d", yes, e)
		}
	}
	if v, yes, e := m.Get("abc"); v != "x" || !yes || e != api.OK {
		t.Errorf("P21.10: behind Puts that were refused: Get = %q, %v, error %d", v, yes, e)
	}
}

// TestAskOwnCodec: P21.10: a codec whose texts have another length than its width: the store refuses them, a value that can't be laid goes ahead of that.
func TestAskOwnCodec(t *testing.T) {
	s := begin(t, 65536)
	m := made(t, s, raw(4, 2), raw(6, 1), 0)
	puts(t, m, "four", "sixsix", true)
	for _, key := range []string{"", "odd", "fives", filler(300)} {
		asks(t, s, m, key, "sixsix", api.ErrKeyWidth, api.ErrKeyWidth, api.ErrKeyWidth)
		asks(t, s, m, key, "odd", api.ErrKeyWidth, api.ErrKeyWidth, api.ErrKeyWidth)
		asks(t, s, m, key, "none", api.ErrKeyWidth, api.ErrElemWidth, api.ErrKeyWidth)
	}
	asks(t, s, m, "none", "none", api.ErrKeyWidth, api.ErrKeyWidth, api.ErrKeyWidth)
	asks(t, s, m, "none", "odd", api.ErrKeyWidth, api.ErrKeyWidth, api.ErrKeyWidth)
	asks(t, s, m, "none", "sixsix", api.ErrKeyWidth, api.ErrKeyWidth, api.ErrKeyWidth)
	for _, v := range []string{"", "odd", "none", "seven77", filler(300)} {
		asks(t, s, m, "five", v, api.OK, api.ErrElemWidth, api.OK)
	}
	puts(t, m, "four", "six666", false)
	if v, yes, e := m.Get("four"); v != "<six666>" || !yes || e != api.OK {
		t.Errorf("P21.10: Get = %q, %v, error %d", v, yes, e)
	}
}

// TestAskZeroValue: P21.10: where the key is not there the value is the type's zero value, not what the codec makes of no bytes.
func TestAskZeroValue(t *testing.T) {
	s := begin(t, 65536)
	m := made(t, s, text(3), both(raw(4, 1), whole), 0)
	asks(t, s, m, "x", two("four", int64(5)), api.OK, api.OK, api.OK)
	asks(t, s, m, "long", two("four", int64(5)), api.ErrKeyWidth, api.ErrKeyWidth, api.ErrKeyWidth)
	puts(t, m, "x", two("four", int64(5)), true)
	if v, yes, e := m.Get("x"); v != two("<four>", int64(5)) || !yes || e != api.OK {
		t.Errorf("P21.10: Get = %v, %v, error %d", v, yes, e)
	}
	p := made[string, *int](t, s, text(3), own[*int]{1, 1, func(*int) (string, bool) { return "p", true }, func(s string) *int { n := len(s); return &n }}, 0)
	if v, yes, e := p.Get("x"); v != nil || yes || e != api.OK {
		t.Errorf("P21.10: a key that is not there: %v, %v, error %d", v, yes, e)
	}
	puts(t, p, "x", nil, true)
	if v, yes, e := p.Get("x"); v == nil || *v != 1 || !yes || e != api.OK {
		t.Errorf("P21.10: a key that is there: %v, %v, error %d", v, yes, e)
	}
}

// TestAskAnswers: P21.10: each call answers what the store's call answers with the bytes, and leaves just that; with little memory too.
func TestAskAnswers(t *testing.T) {
	refused := 0
	for _, limit := range []int{64, 300, 700, 1500, 5000, 1 << 20} {
		s, u := begin(t, limit), begin(t, limit)
		m, e := typed.Make(s, whole, text(2), 16, 3, 0)
		if _, f := u.Make(3, 0, 8, 3, 8, 1, 16); e != f || e != api.OK {
			t.Fatalf("Make: errors %d and %d", e, f)
		}
		for i := range 200 {
			key := int64(i*i%97) - 40
			bytes, v := laid(t, whole, key), []string{"", "a", "ab", "\x00"}[i%4]
			elem := laid(t, text(2), v)
			switch i % 5 {
			case 0, 1, 2:
				got, e := m.Put(key, v)
				want, f := u.Put(1, bytes, elem)
				if got != want || e != f {
					t.Fatalf("P21.10: limit %d: Put = %v, error %d; the store: %v, error %d", limit, got, e, want, f)
				}
				if e == api.ErrMemory {
					refused++
				}
			case 3:
				got, e := m.Delete(key)
				want, f := u.Delete(1, bytes)
				if got != want || e != f {
					t.Fatalf("P21.10: limit %d: Delete = %v, error %d; the store: %v, error %d", limit, got, e, want, f)
				}
			case 4:
				got, yes, e := m.Get(key)
				want, there, f := u.Get(1, bytes)
				if yes != there || e != f || got != text(2).Unpack(want) {
					t.Fatalf("P21.10: limit %d: Get = %q, %v, error %d; the store: %q, %v, error %d", limit, got, yes, e, want, there, f)
				}
			}
			n, e := m.Len()
			if want, f := u.Len(1); n != want || e != f {
				t.Fatalf("P21.10: limit %d: Len = %d, error %d; the store: %d, error %d", limit, n, e, want, f)
			}
			if state(s) != state(u) {
				t.Fatalf("P21.10: limit %d: the store is not what its own calls make of it", limit)
			}
		}
		calm(t, "calls", s)
	}
	if refused == 0 {
		t.Error("no Put was refused by ErrMemory")
	}
}

// TestAskInCodec: W1: a codec that calls the store, and the map itself, while it lays a key: no call waits for another.
func TestAskInCodec(t *testing.T) {
	s := begin(t, 65536)
	var m *typed.Map[string, string]
	var c typed.Codec[string] = own[string]{4, 1, func(v string) (string, bool) {
		if m != nil && v == "nest" {
			m.Put("deep", "five")
		}
		return v, true
	}, func(v string) string {
		s.Len(1)
		return v
	}}
	m = made(t, s, c, c, 0)
	puts(t, m, "nest", "nest", true)
	if n, e := m.Len(); n != 2 || e != api.OK {
		t.Errorf("W1: Len = %d, error %d", n, e)
	}
	// It may release the map, too: the handle is dead by then, and the store says so.
	rude := own[string]{4, 1, func(v string) (string, bool) { s.Release(1); return v, true }, func(v string) string { return v }}
	r := used[string, string](t, s, rude, rude, 1)
	if v, yes, e := r.Get("nest"); v != "" || yes || e != api.ErrGone {
		t.Errorf("P21.10: Get of a map that is released meanwhile: %q, %v, error %d", v, yes, e)
	}
}
