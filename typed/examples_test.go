package typed_test

import (
	"testing"

	"larder/api"
	"larder/tools"
	"larder/typed"
)

// packs: a row of the chapter's table: what Pack answers.
func packs[T any](t *testing.T, c typed.Codec[T], v T, want string, laid bool) {
	t.Helper()
	if s, yes := c.Pack(v); s != want || yes != laid {
		t.Errorf("the chapter's examples: %T%v: Pack(%v) = %q, %v; want %q, %v", c, c, v, s, yes, want, laid)
	}
}

// unpacks: a row of the chapter's table: what Unpack answers.
func unpacks[T comparable](t *testing.T, c typed.Codec[T], s string, want T) {
	t.Helper()
	if v := c.Unpack(s); v != want {
		t.Errorf("the chapter's examples: %T%v: Unpack(%q) = %v; want %v", c, c, s, v, want)
	}
}

// TestExamplesOfCodecs: the chapter's table, its rows of codecs.
func TestExamplesOfCodecs(t *testing.T) {
	packs(t, whole, 0, "\x80\x00\x00\x00\x00\x00\x00\x00", true)
	packs(t, whole, -1, "\x7f\xff\xff\xff\xff\xff\xff\xff", true)
	packs(t, whole, -9223372036854775808, "\x00\x00\x00\x00\x00\x00\x00\x00", true)
	packs(t, natural, 258, "\x00\x00\x00\x00\x00\x00\x01\x02", true)
	unpacks(t, natural, "abc", 0)
	unpacks(t, whole, "", 0)
	packs(t, float, 1, "\xbf\xf0\x00\x00\x00\x00\x00\x00", true)
	packs(t, float, -2, "\x3f\xff\xff\xff\xff\xff\xff\xff", true)
	packs(t, float, 0, "\x80\x00\x00\x00\x00\x00\x00\x00", true)
	packs(t, float, minusZero, "\x80\x00\x00\x00\x00\x00\x00\x00", true)
	unpacks(t, truth, "\x02", true)
	unpacks(t, truth, "", false)
	packs(t, text(3), "ab", "ab\x00\x02", true)
	packs(t, text(3), "abcd", "", false)
	packs(t, text(0), "", "\x00", true)
	unpacks(t, text(3), "abc\x02", "ab")
	unpacks(t, text(3), "abc\x04", "")
	unpacks(t, text(3), "abc", "")
	if w := text(128).Width(); w != 0 {
		t.Errorf("the chapter's examples: Text{128}.Width() = %d", w)
	}
	packs(t, text(128), "", "", false)
	if w := text(-1).Width(); w != 0 {
		t.Errorf("the chapter's examples: Text{-1}.Width() = %d", w)
	}
	packs[typed.Two[bool, string]](t, typed.Both[bool, string]{First: typed.Bool{}, Second: typed.Text{Most: 2}}, two(true, "a"), "\x01a\x00\x01", true)
}

// TestExamplesOfMake: the chapter's table, its rows of Make.
func TestExamplesOfMake(t *testing.T) {
	s := begin(t, 65536)
	m, e := typed.Make(s, text(127), whole, 16, 0, 0)
	if m == nil || e != api.OK {
		t.Fatalf("the chapter's examples: Make(Text{127}, Int{}): error %d", e)
	}
	if l := root(t, s, m.Handle()).Layout; l.Key != 128 || l.Elem != 8 {
		t.Errorf("the chapter's examples: key width %d, elem width %d", l.Key, l.Elem)
	}
	wants(t, s, text(128), whole, 17, -1, api.ErrCodec)
	wants(t, s, whole, both(text(80), text(80)), 16, 0, api.ErrCodec)
	wants(t, s, whole, whole, 17, -1, api.ErrCap)
	wants(t, s, whole, whole, 16, -1, api.ErrHint)
}

// TestExamplesOfMaps: the chapter's table, its rows of maps.
func TestExamplesOfMaps(t *testing.T) {
	s := begin(t, 65536)
	m := made(t, s, text(3), whole, 0)
	if yes, e := m.Put("abcd", 5); yes || e != api.ErrKeyWidth {
		t.Errorf("the chapter's examples: Put = %v, error %d", yes, e)
	}
	puts(t, m, "abc", 5, true)
	puts(t, m, "abc", 6, false)
	for key, want := range map[string]struct {
		v   int64
		yes bool
		e   api.Errno
	}{"abc": {6, true, api.OK}, "x": {0, false, api.OK}, "abcd": {0, false, api.ErrKeyWidth}} {
		if v, yes, e := m.Get(key); v != want.v || yes != want.yes || e != want.e {
			t.Errorf("the chapter's examples: Get(%q) = %d, %v, error %d", key, v, yes, e)
		}
	}
	if v, yes, e := used(t, s, text(3), natural, m.Handle()).Get("abc"); v != 9223372036854775814 || !yes || e != api.OK {
		t.Errorf("the chapter's examples: Get = %d, %v, error %d", v, yes, e)
	}
	if u, e := typed.Use(s, text(2), whole, m.Handle()); u != nil || e != api.ErrCodec {
		t.Errorf("the chapter's examples: Use with Text{2}: error %d", e)
	}
	f := made(t, s, float, truth, 0)
	puts(t, f, 0, true, true)
	puts(t, f, minusZero, false, false)
	if n, e := f.Len(); n != 1 || e != api.OK {
		t.Errorf("the chapter's examples: Len = %d, error %d", n, e)
	}
}

// TestExampleOfOrder: the chapter's last example.
func TestExampleOfOrder(t *testing.T) {
	s := begin(t, 65536)
	c := both(whole, text(3))
	m := made(t, s, c, truth, 5)
	rising := []typed.Two[int64, string]{two(int64(-1), "b"), two(int64(0), ""), two(int64(0), "a"), two(int64(0), "a\x00"), two(int64(7), "")}
	for i := range rising {
		puts(t, m, rising[len(rising)-1-i], true, true)
	}
	keys, e := tools.Keys(s, m.Handle())
	if len(keys) != len(rising) || e != api.OK {
		t.Fatalf("the chapter's examples: %d keys, error %d", len(keys), e)
	}
	for i, k := range keys {
		if c.Unpack(k) != rising[i] {
			t.Errorf("the chapter's examples: key %d is %v, want %v", i, c.Unpack(k), rising[i])
		}
	}
}
