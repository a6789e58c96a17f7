package journal_test

import (
	"bytes"
	"encoding/binary"
	"strings"
	"testing"

	"larder/api"
	"larder/image"
	"larder/journal"
	"larder/script"
	"larder/store"
)

// The chapter's words, written out once more in another way.

// plainMix: chapter 4's mixer.
func plainMix(seed uint64, b string) uint64 {
	const one, other = 0xB7A96E35D14F28C3, 0x9D3B5CE170A846F7
	h := seed ^ one*uint64(1+len(b))
	for _, c := range []byte(b) {
		h = (h ^ uint64(c)) * other
		h ^= h / (1 << 31)
	}
	h ^= h / (1 << 29)
	h *= one
	return h ^ h/(1<<32)
}

// words: each as eight bytes, the lowest first.
func words(l ...uint64) string {
	b, _ := binary.Append(nil, binary.LittleEndian, l)
	return string(b)
}

// counted: a row.
func counted(s string) string { return words(uint64(len(s))) + s }

// fieldsOf: by the chapter's table: what stands behind the Op of a changing command. (F and S are lists, K and E rows.)
var fieldsOf = map[int]string{
	api.OpMake: "UNF", api.OpPut: "HKE", api.OpDelete: "HK", api.OpClear: "HU", api.OpClone: "H", api.OpNext: "H", api.OpOpen: "HUV", api.OpRelease: "S",
}

// plainForm: the form of a command; "" of one that changes nothing.
func plainForm(c api.Cmd) string {
	fields, changing := fieldsOf[c.Op]
	if !changing {
		return ""
	}
	list := func(l []int) string {
		s := words(uint64(len(l)))
		for _, n := range l {
			s += words(uint64(n))
		}
		return s
	}
	all := map[rune]string{'H': words(uint64(c.H)), 'N': words(uint64(c.N)), 'U': words(c.U), 'V': words(c.V), 'K': counted(c.Key), 'E': counted(c.Elem), 'F': list(c.Fields), 'S': list(c.Hs)}
	s := words(uint64(c.Op))
	for _, f := range fields {
		s += all[f]
	}
	return s
}

// piece: a head or a record: what it begins with (of a record nothing), how many bytes its body is said to have, its body, and what its sum is more than it should be.
type piece struct {
	first string
	count uint64
	body  string
	spoil uint64
}

// row: the piece as it is laid behind that sum, and its own sum.
func (p piece) row(ahead uint64) (string, uint64) {
	s := p.first + words(p.count) + p.body
	sum := plainMix(ahead, s) + p.spoil
	return s + words(sum), sum
}

func headPiece(kind uint64, body string) piece {
	return piece{first: "larder2\x0A" + words(kind), count: uint64(len(body)), body: body}
}

func recordPiece(body string) piece { return piece{count: uint64(len(body)), body: body} }

// laid: a log of a head and records: each sum hangs on the one that stands ahead of it, right or wrong.
func laid(head piece, records ...piece) string {
	log, sum := head.row(20)
	for _, p := range records {
		s, next := p.row(sum)
		log, sum = log+s, next
	}
	return log
}

// newBody: a head's body of kind 0.
func newBody(limit int, over ...api.Over) string {
	s := words(uint64(limit), uint64(len(over)))
	for _, o := range over {
		s += counted(o.Key) + words(o.Hash)
	}
	return s
}

// plainJournal: a store and the pieces of its log.
type plainJournal struct {
	store   *store.Store
	head    piece
	records []piece
}

func plainBegin(t testing.TB, limit int, over ...api.Over) *plainJournal {
	t.Helper()
	s, e := store.New(limit, over...)
	if e != api.OK {
		t.Fatalf("store.New: error %d", e)
	}
	return &plainJournal{store: s, head: headPiece(0, newBody(limit, over...))}
}

func (p *plainJournal) do(c api.Cmd) api.Answer {
	if body := plainForm(c); body != "" {
		p.records = append(p.records, recordPiece(body))
	}
	return script.Play(p.store, c)
}

func (p *plainJournal) mark() api.Errno {
	b, e := image.Save(p.store)
	if e == api.OK {
		p.head, p.records = headPiece(1, string(b)), nil
	}
	return e
}

func (p *plainJournal) log() string { return laid(p.head, p.records...) }

// scan: the body of what lies in the log from one place on, its own first bytes aside, and where it ends; 0, if it is not whole or its sum is wrong.
func scan(log string, from, first int, ahead uint64) (body string, end int) {
	at := from + first + 8
	if len(log) < at+8 {
		return "", 0
	}
	n := binary.LittleEndian.Uint64([]byte(log[at-8 : at]))
	if n > uint64(len(log)-at-8) {
		return "", 0
	}
	end = at + int(n)
	if words(plainMix(ahead, log[from:end])) != log[end:end+8] {
		return "", 0
	}
	return log[at:end], end + 8
}

// cursor: what is left of a body; fine, as long as it did not end too early.
type cursor struct {
	left *bytes.Reader
	fine bool
}

func (c *cursor) word() (v uint64) {
	c.fine = c.fine && binary.Read(c.left, binary.LittleEndian, &v) == nil
	return v
}

func (c *cursor) row() string {
	n := c.word()
	if c.fine = c.fine && n <= uint64(c.left.Len()); !c.fine {
		return ""
	}
	b := make([]byte, n)
	c.left.Read(b)
	return string(b)
}

func (c *cursor) list() (l []int) {
	for n := c.word(); c.fine && n > 0; n-- {
		l = append(l, int(c.word()))
	}
	return l
}

func (c *cursor) done() bool { return c.fine && c.left.Len() == 0 }

// plainCommand: what a record's body tells.
func plainCommand(body string) (c api.Cmd, good bool) {
	left := &cursor{bytes.NewReader([]byte(body)), true}
	c.Op = int(left.word())
	fields, changing := fieldsOf[c.Op]
	for _, f := range fields {
		switch f {
		case 'H':
			c.H = int(left.word())
		case 'N':
			c.N = int(left.word())
		case 'U':
			c.U = left.word()
		case 'V':
			c.V = left.word()
		case 'K':
			c.Key = left.row()
		case 'E':
			c.Elem = left.row()
		case 'F':
			c.Fields = left.list()
		case 'S':
			c.Hs = left.list()
		}
	}
	return c, changing && left.done() && plainForm(c) == body
}

// plainStore: what a head tells, with a right sum.
func plainStore(first, body string) (*store.Store, api.Errno) {
	switch first {
	case "larder2\x0A" + words(0):
		left := &cursor{bytes.NewReader([]byte(body)), true}
		limit, over := int(left.word()), []api.Over(nil)
		for n := left.word(); left.fine && n > 0; n-- {
			key := left.row()
			over = append(over, api.Over{Key: key, Hash: left.word()})
		}
		if !left.done() {
			return nil, api.ErrLog
		}
		return store.New(limit, over...)
	case "larder2\x0A" + words(1):
		s, e := image.Load([]byte(body))
		if e == api.ErrImage {
			e = api.ErrLog
		}
		return s, e
	}
	return nil, api.ErrLog
}

// plainRecover: the store, the good commands, which are done, and the bytes of the head and the good records.
func plainRecover(log string) (*store.Store, []api.Cmd, string, api.Errno) {
	body, end := scan(log, 0, 16, 20)
	if end == 0 {
		return nil, nil, "", api.ErrLog
	}
	s, e := plainStore(log[:16], body)
	if e != api.OK {
		return nil, nil, "", e
	}
	var done []api.Cmd
	for {
		body, next := scan(log, end, 0, binary.LittleEndian.Uint64([]byte(log[end-8:end])))
		c, good := plainCommand(body)
		if next == 0 || !good {
			return s, done, log[:end], api.OK
		}
		script.Play(s, c)
		done, end = append(done, c), next
	}
}

// asPlainly: Recover answers what the words ask for: and how many records it tells, and the error.
func asPlainly(t testing.TB, what, log string) (int, api.Errno) {
	t.Helper()
	s, done, want, e := plainRecover(log)
	given := []byte(log + strings.Repeat("\x00", 16))[:len(log)]
	j, n, f := journal.Recover(given)
	switch {
	case string(given[:len(log)+16]) != log+strings.Repeat("\x00", 16):
		t.Fatalf("P20.9: %s: Recover has changed the list that it was given", what)
	case e != f || (j == nil) != (e != api.OK):
		t.Fatalf("P20.5: %s: journal %v, error %d, want error %d", what, j != nil, f, e)
	case n != len(done):
		t.Fatalf("P20.5: %s: %d records, want %d", what, n, len(done))
	case e != api.OK:
		return 0, e
	case string(j.Log()) != want:
		t.Fatalf("P20.5: %s: the log is % x, want % x", what, j.Log(), want)
	case state(j.Store()) != state(s):
		t.Fatalf("P20.5: %s: the store is another", what)
	}
	return n, e
}
