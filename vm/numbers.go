package vm

import (
	"strconv"

	"larder/api"
)

func (m *machine) push(in api.Inst) api.Errno { return m.lay(in.N) }

func (m *machine) load(in api.Inst) api.Errno { return m.lay(m.vars[in.A]) }

func (m *machine) keep(in api.Inst) api.Errno {
	m.vars[in.A] = m.nums.pop()
	return api.OK
}

// lay: a number comes on the stack; that ends no run.
func (m *machine) lay(x int64) api.Errno {
	m.nums.push(x)
	return api.OK
}

// layTruth: a 1 for what is so, else a 0.
func (m *machine) layTruth(so bool) api.Errno {
	if so {
		return m.lay(1)
	}
	return m.lay(0)
}

// two: the two uppermost numbers, which are taken off; the uppermost is the second.
func (m *machine) two() (x, y int64) {
	y = m.nums.pop()
	return m.nums.pop(), y
}

func (m *machine) negative(api.Inst) api.Errno { return m.lay(-m.nums.pop()) }

func (m *machine) not(api.Inst) api.Errno { return m.layTruth(m.nums.pop() == 0) }

func (m *machine) add(api.Inst) api.Errno {
	x, y := m.two()
	return m.lay(x + y)
}

func (m *machine) subtract(api.Inst) api.Errno {
	x, y := m.two()
	return m.lay(x - y)
}

func (m *machine) multiply(api.Inst) api.Errno {
	x, y := m.two()
	return m.lay(x * y)
}

func (m *machine) divide(api.Inst) api.Errno {
	x, y := m.two()
	if y == 0 {
		return api.ErrZero
	}
	return m.lay(x / y)
}

func (m *machine) rest(api.Inst) api.Errno {
	x, y := m.two()
	if y == 0 {
		return api.ErrZero
	}
	return m.lay(x % y)
}

func (m *machine) equal(api.Inst) api.Errno {
	x, y := m.two()
	return m.layTruth(x == y)
}

func (m *machine) unequal(api.Inst) api.Errno {
	x, y := m.two()
	return m.layTruth(x != y)
}

func (m *machine) less(api.Inst) api.Errno {
	x, y := m.two()
	return m.layTruth(x < y)
}

func (m *machine) atMost(api.Inst) api.Errno {
	x, y := m.two()
	return m.layTruth(x <= y)
}

func (m *machine) greater(api.Inst) api.Errno {
	x, y := m.two()
	return m.layTruth(x > y)
}

func (m *machine) atLeast(api.Inst) api.Errno {
	x, y := m.two()
	return m.layTruth(x >= y)
}

// print: the A uppermost numbers become a line, the lowest of them first.
func (m *machine) print(in api.Inst) api.Errno {
	low := len(m.nums) - in.A
	var line []byte
	for i, x := range m.nums[low:] {
		if i > 0 {
			line = append(line, ' ')
		}
		line = strconv.AppendInt(line, x, 10)
	}
	m.nums = m.nums[:low]
	m.lines = append(m.lines, string(line))
	return api.OK
}
