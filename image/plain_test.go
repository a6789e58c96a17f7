package image_test

import (
	"bytes"
	"encoding/binary"
	"io"
	"math/big"
	"testing"

	"larder/api"
	"larder/arena"
	"larder/audit"
	"larder/image"
	"larder/layout"
	"larder/store"
)

// The chapter's words, written out once more in another way.

// plainSum: chapter 4's mixer with the seed 19.
func plainSum(b []byte) uint64 {
	const one, other = 0xB7A96E35D14F28C3, 0x9D3B5CE170A846F7
	h := uint64(19) ^ one*uint64(1+len(b))
	for _, c := range b {
		h = (h ^ uint64(c)) * other
		h ^= h / (1 << 31)
	}
	h ^= h / (1 << 29)
	h *= one
	return h ^ h/(1<<32)
}

// bigSum: the same in numbers that never wrap round.
func bigSum(b []byte) uint64 {
	whole := new(big.Int).Lsh(big.NewInt(1), 64)
	one, _ := new(big.Int).SetString("B7A96E35D14F28C3", 16)
	other, _ := new(big.Int).SetString("9D3B5CE170A846F7", 16)
	times := func(x, y *big.Int) *big.Int { return new(big.Int).Mod(new(big.Int).Mul(x, y), whole) }
	mixed := func(x *big.Int, by uint) *big.Int { return new(big.Int).Xor(x, new(big.Int).Rsh(x, by)) }
	h := new(big.Int).Xor(big.NewInt(19), times(one, big.NewInt(int64(1+len(b)))))
	for _, c := range b {
		h = mixed(times(new(big.Int).Xor(h, big.NewInt(int64(c))), other), 31)
	}
	return mixed(times(mixed(h, 29), one), 32).Uint64()
}

// over, kept and part: what an image says of an override, of a map, of a part.
type (
	over struct {
		count uint64
		key   string
		hash  uint64
	}
	kept [7]uint64
	part [2]uint64
)

// pieces: an image in its pieces, each of which a test may change; a count need not be the right one.
type pieces struct {
	head  string
	limit uint64
	overs uint64
	over  []over
	next  uint64
	maps  uint64
	kept  []kept
	parts uint64
	part  []part
	bytes uint64
	live  string
	spoil uint64 // what the sum is more than it should be
	tail  string
}

// row: the pieces one behind the other.
func (p pieces) row() []byte {
	b := append([]byte(p.head), word(p.limit)...)
	b = append(b, word(p.overs)...)
	for _, o := range p.over {
		b = append(append(append(b, word(o.count)...), o.key...), word(o.hash)...)
	}
	b = append(append(b, word(p.next)...), word(p.maps)...)
	for _, k := range p.kept {
		for _, v := range k {
			b = append(b, word(v)...)
		}
	}
	b = append(b, word(p.parts)...)
	for _, q := range p.part {
		b = append(append(b, word(q[0])...), word(q[1])...)
	}
	b = append(append(b, word(p.bytes)...), p.live...)
	return append(append(b, word(plainSum(b)+p.spoil)...), p.tail...)
}

// piecesOf: those of a store's image.
func piecesOf(s *store.Store) pieces {
	hold, a := s.Hold(), s.Arena()
	p := pieces{head: "larder1\x0A", limit: uint64(a.Limit()), overs: uint64(len(hold.Over)), next: uint64(hold.Next), maps: uint64(len(hold.Maps))}
	for _, o := range hold.Over {
		p.over = append(p.over, over{uint64(len(o.Key)), o.Key, o.Hash})
	}
	for _, k := range hold.Maps {
		l := k.Root.Layout
		p.kept = append(p.kept, kept{uint64(k.Handle), uint64(k.Root.Off), uint64(l.Key), uint64(l.Elem), uint64(l.KeyAlign), uint64(l.ElemAlign), uint64(l.Cap)})
	}
	for _, q := range a.Parts() {
		p.parts++
		p.part = append(p.part, part{uint64(q.Size), 0})
		if q.Live {
			p.part[len(p.part)-1][1] = 1
			b, _ := a.Read(q.Off, q.Size)
			p.live += b
		}
	}
	p.bytes = uint64(len(p.live))
	return p
}

// clone: pieces whose lists are their own.
func (p pieces) clone() pieces {
	p.over = append([]over(nil), p.over...)
	p.kept = append([]kept(nil), p.kept...)
	p.part = append([]part(nil), p.part...)
	return p
}

// scan: the pieces of a row of bytes; false, if it is not of the form.
func scan(b []byte) (p pieces, sum uint64, fine bool) {
	r := bytes.NewReader(b)
	fine = true
	read := func(into any) {
		if fine && binary.Read(r, binary.LittleEndian, into) != nil {
			fine = false
		}
	}
	text := func(n uint64) string {
		if fine = fine && n <= uint64(r.Len()); !fine {
			return ""
		}
		l := make([]byte, n)
		io.ReadFull(r, l)
		return string(l)
	}
	p.head = text(8)
	read(&p.limit)
	read(&p.overs)
	for n := p.overs; fine && n > 0; n-- {
		var o over
		read(&o.count)
		o.key = text(o.count)
		read(&o.hash)
		p.over = append(p.over, o)
	}
	read(&p.next)
	read(&p.maps)
	for n := p.maps; fine && n > 0; n-- {
		var k kept
		read(&k)
		p.kept = append(p.kept, k)
	}
	read(&p.parts)
	for n := p.parts; fine && n > 0; n-- {
		var q part
		read(&q)
		p.part = append(p.part, q)
		fine = fine && q[1] <= 1
	}
	read(&p.bytes)
	p.live = text(p.bytes)
	read(&sum)
	return p, sum, fine && r.Len() == 0 && p.head == "larder1\x0A"
}

// plainLoad: the five looks.
func plainLoad(b []byte) (*store.Store, api.Errno) {
	p, sum, fine := scan(b)
	switch {
	case !fine:
		return nil, api.ErrImage
	case sum != plainSum(b[:len(b)-8]):
		return nil, api.ErrSum
	}
	var parts []api.Part
	at := api.First
	for _, q := range p.part {
		parts = append(parts, api.Part{Off: at, Size: int(q[0]), Live: q[1] == 1})
		at += int(q[0])
	}
	a, e := arena.Restore(int(p.limit), parts, p.live)
	if e != api.OK {
		return nil, e
	}
	hold := api.Hold{Next: int(p.next)}
	for _, o := range p.over {
		hold.Over = append(hold.Over, api.Over{Key: o.key, Hash: o.hash})
	}
	for _, k := range p.kept {
		l, e := layout.Parse(int(k[2]), int(k[3]), int(k[4]), int(k[5]), int(k[6]))
		if e != api.OK {
			l = api.Layout{}
		}
		hold.Maps = append(hold.Maps, api.Kept{Handle: int(k[0]), Root: api.Root{Off: int(k[1]), Layout: l}})
	}
	s, e := store.Restore(hold, a)
	if e != api.OK {
		return nil, e
	}
	if audit.Check(a, s.Oracle(), s.Roots()...) != (api.Finding{}) {
		return nil, api.ErrSound
	}
	return s, api.OK
}

// asPlainly: Load answers what the words ask for; where it takes the bytes, Save of its store answers them again. The answer is told.
func asPlainly(t testing.TB, what string, b []byte) api.Errno {
	t.Helper()
	want, e := plainLoad(b)
	got, f := image.Load(b)
	switch {
	case e != f || (got == nil) != (want == nil):
		t.Fatalf("P19.3: %s: store %v, error %d, want %v, error %d", what, got != nil, f, want != nil, e)
	case e != api.OK:
		return e
	case state(got) != state(want):
		t.Fatalf("P19.3: %s: the store is another", what)
	case !bytes.Equal(save(t, got), b):
		t.Fatalf("P19.5: %s: the loaded store's image is another", what)
	}
	return api.OK
}
