package oracle_test

import (
	"fmt"
	"math"
	"math/big"
	"math/rand"
	"strings"
	"testing"

	"larder/api"
	"larder/oracle"
)

const greatest = math.MaxUint64

// seeds: the least and the greatest, and some between.
var seeds = []uint64{0, 1, 2, 7, 12345, 1 << 31, 1 << 32, 1 << 63, greatest - 1, greatest}

// hashes: numbers with a bit at either end, none, and all of them.
var hashes = []uint64{0, 1, 127, 128, 255, 1 << 56, 1 << 57, 1 << 58, 1 << 62, 1 << 63, 3 << 62, 0xA5A5A5A5A5A5A5A5, 0x0123456789ABCDEF, greatest - 1, greatest}

// made: the oracle of overrides that are right.
func made(t *testing.T, over ...api.Over) *oracle.Oracle {
	t.Helper()
	o, e := oracle.New(over...)
	if o == nil || e != api.OK {
		t.Fatalf("P4.1: New of %d overrides: an oracle %v, error %d, want one, error 0", len(over), o != nil, e)
	}
	return o
}

// refuses: New answers this error, and no oracle.
func refuses(t *testing.T, want api.Errno, over ...api.Over) {
	t.Helper()
	if o, e := oracle.New(over...); o != nil || e != want {
		t.Errorf("P4.1: New of %d overrides, %s: an oracle %v, error %d, want none, error %d", len(over), firstFew(over), o != nil, e, want)
	}
}

// firstFew: a list's first overrides, for a message.
func firstFew(over []api.Over) string {
	var b strings.Builder
	for _, v := range over[:min(len(over), 8)] {
		fmt.Fprintf(&b, "{%.20q of %d bytes, %#x} ", v.Key, len(v.Key), v.Hash)
	}
	return b.String()
}

// gives: the oracle's hash of the key under every one of the seeds.
func gives(t *testing.T, o *oracle.Oracle, key string, want uint64) {
	t.Helper()
	for _, s := range seeds {
		if h := o.Hash(s, key); h != want {
			t.Errorf("P4.2: Hash(%d, %.40q) = %#x, want %#x", s, key, h, want)
		}
	}
}

// mixes: the oracle has no override for the key.
func mixes(t *testing.T, o *oracle.Oracle, key string) {
	t.Helper()
	for _, s := range seeds {
		if h, want := o.Hash(s, key), told(s, key); h != want {
			t.Errorf("P4.2: Hash(%d, %.40q) = %#x, want %#x, which is mixed", s, key, h, want)
		}
	}
}

// row: that many overrides of as many keys, none of them with a fault.
func row(n int) []api.Over {
	var l []api.Over
	for i := range n {
		l = append(l, api.Over{Key: strings.Repeat("k", i%100) + string([]byte{byte(i)}), Hash: uint64(i) * 1000})
	}
	return l
}

// keys: some of each length named, with bytes of all kinds.
func keys() []string {
	r := rand.New(rand.NewSource(4))
	l := []string{"", "a", "A", "aa", "\x00", "\x00\x00", "\xff", "\xff\xff", "é", "日本", "larder"}
	for _, n := range []int{1, 2, 3, 7, 8, 9, 16, 31, 127, 128, 129, 130, 256, 1000} {
		b := make([]byte, n)
		r.Read(b)
		l = append(l, string(b), strings.Repeat("\x00", n), strings.Repeat("x", n))
	}
	return l
}

// The chapter's two numbers, and what it counts modulo.
var (
	numberA, _ = new(big.Int).SetString("B7A96E35D14F28C3", 16)
	numberB, _ = new(big.Int).SetString("9D3B5CE170A846F7", 16)
	modulus    = new(big.Int).Lsh(big.NewInt(1), 64)
)

// times: the product, modulo 2^64.
func times(x, y *big.Int) *big.Int {
	p := new(big.Int).Mul(x, y)
	return p.Mod(p, modulus)
}

// xor: bit by bit.
func xor(x, y *big.Int) *big.Int { return new(big.Int).Xor(x, y) }

// shifted: the whole part of h divided by 2 to the power k.
func shifted(h *big.Int, k int64) *big.Int {
	power := new(big.Int).Exp(big.NewInt(2), big.NewInt(k), nil)
	return new(big.Int).Div(h, power)
}

// told: what the chapter says of Mix, step by step, in numbers that know no 64 bits.
func told(seed uint64, key string) uint64 {
	h := xor(new(big.Int).SetUint64(seed), times(numberA, big.NewInt(int64(1+len(key)))))
	for _, c := range []byte(key) {
		h = times(xor(h, big.NewInt(int64(c))), numberB)
		h = xor(h, shifted(h, 31))
	}
	h = xor(h, shifted(h, 29))
	h = times(h, numberA)
	h = xor(h, shifted(h, 32))
	return h.Uint64()
}

// unfolded: the number whose xor with itself shifted by k is h. Each round gets k bits more of its 64 right, from the highest down; k is 29 or more.
func unfolded(h *big.Int, k int64) *big.Int {
	was := h
	for range 3 {
		was = xor(h, shifted(was, k))
	}
	return was
}

// undone: the seed under which the key has the hash h: Mix's steps backwards.
func undone(h uint64, key string) uint64 {
	backA, backB := new(big.Int).ModInverse(numberA, modulus), new(big.Int).ModInverse(numberB, modulus)
	n := unfolded(times(unfolded(new(big.Int).SetUint64(h), 32), backA), 29)
	for i := len(key) - 1; i >= 0; i-- {
		n = xor(times(unfolded(n, 31), backB), big.NewInt(int64(key[i])))
	}
	return xor(n, times(numberA, big.NewInt(int64(1+len(key))))).Uint64()
}
