package vm

import (
	"larder/api"
	"larder/typed"
)

// The run's maps live as long as the run, and a walk as long as it lies on the row; numbers are always laid. So the store refuses nothing but a put, for memory.

func (m *machine) get(in api.Inst) api.Errno {
	v, _, _ := m.maps[in.A].Get(m.nums.pop())
	return m.lay(v)
}

func (m *machine) has(in api.Inst) api.Errno {
	_, there, _ := m.maps[in.A].Get(m.nums.pop())
	return m.layTruth(there)
}

func (m *machine) length(in api.Inst) api.Errno {
	n, _ := m.maps[in.A].Len()
	return m.lay(int64(n))
}

func (m *machine) put(in api.Inst) api.Errno {
	k, v := m.two()
	_, e := m.maps[in.A].Put(k, v)
	return e
}

func (m *machine) drop(in api.Inst) api.Errno {
	_, e := m.maps[in.A].Delete(m.nums.pop())
	return e
}

func (m *machine) empty(in api.Inst) api.Errno {
	return m.store.Clear(m.maps[in.A].Handle(), m.seed)
}

func (m *machine) open(in api.Inst) api.Errno {
	one := m.draw()
	w, e := m.store.Open(m.maps[in.A].Handle(), one, m.draw())
	m.walks.push(w)
	return e
}

// draw: the next one; behind the last it is 0.
func (m *machine) draw() uint64 {
	if len(m.draws) == 0 {
		return 0
	}
	d := m.draws[0]
	m.draws = m.draws[1:]
	return d
}

func (m *machine) next(in api.Inst) api.Errno {
	p, yes, e := m.store.Next(m.walks.uppermost())
	if !yes {
		m.at = in.A
		return m.shut(in)
	}
	m.nums.push(typed.Int{}.Unpack(p.Key))
	m.nums.push(typed.Int{}.Unpack(p.Elem))
	return e
}

func (m *machine) shut(api.Inst) api.Errno { return m.store.Release(m.walks.pop()) }
