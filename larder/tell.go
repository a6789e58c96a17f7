package larder

import (
	"cmp"
	"slices"
	"strings"

	"larder/api"
	"larder/image"
	"larder/script"
	"larder/swiss"
)

func (r *run) list() []api.Answer { return r.answers }

// lines: the answers, a line each.
func (r *run) lines() string {
	var text strings.Builder
	join := func(line string) {
		text.WriteString(line)
		text.WriteByte('\n')
	}
	for _, a := range r.answers {
		join(script.Show(a))
	}
	return text.String()
}

// image: that of the store. An image keeps no walks, so they are released ahead of it, and it can't be refused.
func (r *run) image() []byte {
	r.release(r.walks())
	img, _ := image.Save(r.store)
	return img
}

// walks: the handles that are no maps', rising.
func (r *run) walks() []int {
	maps := r.store.Hold().Maps
	byHandle := func(k api.Kept, h int) int { return cmp.Compare(k.Handle, h) }
	return slices.DeleteFunc(r.store.Handles(), func(h int) bool {
		_, isMap := slices.BinarySearchFunc(maps, h, byHandle)
		return isMap
	})
}

// dump: the text of a script that makes the store's maps anew.
func (r *run) dump() string {
	hold := r.store.Hold()
	s := api.Script{Limit: api.MaxLimit, Over: hold.Over}
	for i, k := range hold.Maps {
		m := swiss.At(r.store.Arena(), k.Root.Layout, r.store.Oracle(), k.Root.Off)
		s.Cmds = append(s.Cmds, makeOf(m))
		s.Cmds = append(s.Cmds, putsOf(m, i+1)...)
	}
	return script.Print(s)
}

// makeOf: the command that makes a map like this one, without its keys.
func makeOf(m swiss.Map) api.Cmd {
	stat, _ := m.Stat() // the map is alive
	l := m.Layout()
	return api.Cmd{Op: api.OpMake, U: stat.Seed, Fields: []int{l.Key, l.Elem, l.KeyAlign, l.ElemAlign, l.Cap}}
}

// putsOf: the commands that put the map's pairs behind that handle. No walk goes through the map: in a log's image a block may have so many pins that no walk can step onto it.
func putsOf(m swiss.Map, h int) []api.Cmd {
	var puts []api.Cmd
	for key, elem := range m.All() {
		puts = append(puts, api.Cmd{Op: api.OpPut, H: h, Key: key, Elem: elem})
	}
	slices.SortFunc(puts, func(a, b api.Cmd) int { return strings.Compare(a.Key, b.Key) })
	return puts
}
