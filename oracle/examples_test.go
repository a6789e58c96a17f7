package oracle_test

import (
	"slices"
	"testing"

	"larder/api"
	"larder/oracle"
)

func TestExamplesOfNew(t *testing.T) {
	a, b, empty := api.Over{Key: "a", Hash: 5}, api.Over{Key: "b", Hash: 6}, api.Over{Key: "", Hash: 1}
	refuses(t, api.ErrLong, api.Over{Key: "", Hash: 5})
	refuses(t, api.ErrTwice, a, b, a, empty)
	refuses(t, api.ErrLong, a, empty, a)
	refuses(t, api.ErrMany, slices.Repeat([]api.Over{empty}, 65)...)
}

func TestExamplesOfHash(t *testing.T) {
	o := made(t, api.Over{Key: "a", Hash: 5})
	if x, y, z := o.Hash(1, "a"), o.Hash(2, "a"), o.Hash(0, ""); x != 5 || y != 5 || z != 0x17AFBBAD9D439DAA {
		t.Errorf("P4.2: %d, %d, %#x", x, y, z)
	}
}

func TestExamplesOfParts(t *testing.T) {
	if tag, home := oracle.Tag(0xFF), oracle.Home(0xFF); tag != 127 || home != 1 {
		t.Errorf("P4.5: Tag %d, Home %d", tag, home)
	}
	if n, m := oracle.Top(0xC000000000000000, 2), oracle.Top(0xC000000000000000, 7); n != 3 || m != 0 {
		t.Errorf("P4.6: Top %d, %d, want 3, 0", n, m)
	}
	got := [5]int{oracle.Bit(0x4000000000000000, 1), oracle.Bit(0x4000000000000000, 0), oracle.Bit(1, 63), oracle.Bit(1, 64), oracle.Bit(0xFFFFFFFFFFFFFFFF, -1)}
	if got != [5]int{1, 0, 1, 0, 0} {
		t.Errorf("P4.6: Bit %v, want [1 0 1 0 0]", got)
	}
}

func TestExamplesOfMix(t *testing.T) {
	for _, c := range []struct {
		seed uint64
		key  string
		want uint64
	}{
		{0, "", 0x17AFBBAD9D439DAA},
		{1, "", 0x60064D77D99AB033},
		{0, "a", 0x51299A510849BD86},
		{7, "\x00", 0xCD27F6DB4F3DF5E6},
		{7, "\x00\x00", 0x131DEC1C507C908F},
		{12345, "larder", 0x29D97D805E27892F},
		{0, "\xff\x80", 0x43F892542182DDDF},
		{0xFFFFFFFFFFFFFFFF, "ab", 0x9D6DD2638DEAA80A},
	} {
		if h := oracle.Mix(c.seed, c.key); h != c.want {
			t.Errorf("P4.3: Mix(%d, %q) = %#X, want %#X", c.seed, c.key, h, c.want)
		}
		if h := told(c.seed, c.key); h != c.want {
			t.Errorf("the test's own mixer: Mix(%d, %q) = %#X, want %#X", c.seed, c.key, h, c.want)
		}
	}
}

func TestExampleOfDraws(t *testing.T) {
	d := oracle.NewDraws(7, 0, 9)
	got := [7]uint64{uint64(d.Left()), d.Take(), d.Take(), uint64(d.Left()), d.Take(), d.Take(), uint64(d.Left())}
	if got != [7]uint64{3, 7, 0, 1, 9, 0, 0} {
		t.Errorf("P4.7: %v, want [3 7 0 1 9 0 0]", got)
	}
}
