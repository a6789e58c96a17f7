package walk

import (
	"larder/api"
	"larder/dir"
	"larder/small"
	"larder/table"
)

// noDir: the depth of a map without a directory.
const noDir = -1

// round: a walk's way through a directory's entries, from start on and once around.
type round struct {
	entries int // how many there were when the walk looked last
	start   int
	passed  int // how many of them are behind the walk
}

// in: the same round in a directory that has so many entries by now. (A directory grows by making two of each entry, and never shrinks.)
func (r round) in(entries int) round {
	if entries <= r.entries {
		return r
	}
	by := entries / r.entries
	return round{entries: entries, start: r.start * by, passed: r.passed * by}
}

// stand: the walk stands on something, if there is something left; if not, it is done.
func (w *Walk) stand(st api.MapStat) (bool, api.Errno) {
	if w.mode == noMode {
		if e := w.begin(st); e != api.OK {
			return false, e
		}
	}
	switch {
	case w.on != nil:
		return true, api.OK
	case w.mode == largeMode:
		return w.nextTable(st)
	}
	w.end()
	return false, api.OK
}

// begin: the mode, by what the map is now; a map that has nothing gives none.
func (w *Walk) begin(st api.MapStat) api.Errno {
	switch {
	case st.Root == 0:
		return api.OK
	case st.Depth == noDir:
		return w.beginSmall(st)
	}
	return w.beginLarge(st)
}

func (w *Walk) beginSmall(st api.MapStat) api.Errno {
	if e := w.stepOn(small.At(w.m.Arena(), w.m.Layout(), st.Root)); e != api.OK {
		return e
	}
	w.mode = smallMode
	return api.OK
}

func (w *Walk) beginLarge(st api.MapStat) api.Errno {
	d, entries, e := w.dir(st)
	if e != api.OK {
		return e
	}
	_, first, _, e := w.tableAt(d, int(w.one%uint64(entries)))
	if e != api.OK {
		return e
	}
	w.mode, w.round = largeMode, round{entries: entries, start: first}
	return api.OK
}

// nextTable: the walk steps onto the table behind those that it has passed; false: it has come round, and is done.
func (w *Walk) nextTable(st api.MapStat) (bool, api.Errno) {
	d, entries, e := w.dir(st)
	if e != api.OK {
		return false, e
	}
	r := w.round.in(entries)
	if r.passed >= r.entries {
		w.end()
		return false, api.OK
	}
	t, _, n, e := w.tableAt(d, (r.start+r.passed)%r.entries)
	if e != api.OK {
		return false, e
	}
	if e := w.stepOn(t); e != api.OK {
		return false, e
	}
	r.passed += n
	w.round = r
	return true, api.OK
}

// dir: the map's directory, and how many entries it has: the run of those that share no bit is all of them.
func (w *Walk) dir(st api.MapStat) (dir.Dir, int, api.Errno) {
	d := dir.At(w.m.Arena(), st.Root, st.Depth)
	_, entries, e := d.Run(0, 0)
	return d, entries, e
}

// tableAt: the table at an entry, the first entry of its run, and how many there are.
func (w *Walk) tableAt(d dir.Dir, entry int) (t table.Table, first, n int, e api.Errno) {
	off, e := d.Entry(entry)
	if e != api.OK {
		return table.Table{}, 0, 0, e
	}
	t = table.At(w.m.Arena(), w.m.Layout(), off)
	st, e := t.Stat()
	if e != api.OK {
		return table.Table{}, 0, 0, e
	}
	first, n, e = d.Run(entry, st.Depth)
	return t, first, n, e
}
