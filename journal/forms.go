package journal

import "larder/api"

// form: of a changing command: what is written behind its Op, and how that is read back.
type form struct {
	op    int
	write func(w *writer, c api.Cmd)
	read  func(r *reader, c *api.Cmd)
}

// forms: those of all changing commands.
func forms() [8]form {
	writeH := func(w *writer, c api.Cmd) { w.number(c.H) }
	readH := func(r *reader, c *api.Cmd) { c.H = r.number() }
	return [...]form{
		{
			op:    api.OpMake,
			write: func(w *writer, c api.Cmd) { w.word(c.U); w.number(c.N); w.list(c.Fields) },
			read:  func(r *reader, c *api.Cmd) { c.U, c.N, c.Fields = r.word(), r.number(), r.list() },
		},
		{
			op:    api.OpPut,
			write: func(w *writer, c api.Cmd) { w.number(c.H); w.counted(c.Key); w.counted(c.Elem) },
			read:  func(r *reader, c *api.Cmd) { c.H, c.Key, c.Elem = r.number(), r.text(), r.text() },
		},
		{
			op:    api.OpDelete,
			write: func(w *writer, c api.Cmd) { w.number(c.H); w.counted(c.Key) },
			read:  func(r *reader, c *api.Cmd) { c.H, c.Key = r.number(), r.text() },
		},
		{
			op:    api.OpClear,
			write: func(w *writer, c api.Cmd) { w.number(c.H); w.word(c.U) },
			read:  func(r *reader, c *api.Cmd) { c.H, c.U = r.number(), r.word() },
		},
		{op: api.OpClone, write: writeH, read: readH},
		{
			op:    api.OpOpen,
			write: func(w *writer, c api.Cmd) { w.number(c.H); w.word(c.U); w.word(c.V) },
			read:  func(r *reader, c *api.Cmd) { c.H, c.U, c.V = r.number(), r.word(), r.word() },
		},
		{op: api.OpNext, write: writeH, read: readH},
		{
			op:    api.OpRelease,
			write: func(w *writer, c api.Cmd) { w.list(c.Hs) },
			read:  func(r *reader, c *api.Cmd) { c.Hs = r.list() },
		},
	}
}

// formOf: the form of an Op, if its command is a changing one.
func formOf(op int) (form, bool) {
	for _, f := range forms() {
		if f.op == op {
			return f, true
		}
	}
	return form{}, false
}

// body: a command of this form, as a record has it.
func (f form) body(c api.Cmd) []byte {
	w := &writer{}
	w.number(f.op)
	f.write(w, c)
	return w.row
}

// command: what a record's body tells, if it is the form of a changing command, and nothing else.
func command(body []byte) (api.Cmd, bool) {
	r := &reader{row: body}
	c := api.Cmd{Op: r.number()}
	f, changing := formOf(c.Op)
	if !changing {
		return api.Cmd{}, false
	}
	f.read(r, &c)
	return c, r.whole()
}
