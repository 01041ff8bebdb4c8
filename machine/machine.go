// Package machine runs code over memory, and writes down its trace.
package machine

import "veil/api"

// machine is a machine that runs code which was found to be right.
type machine struct {
	registers [api.Registers]int
	memory    []int
	trace     []int
	next      int // the operation that is done next
}

// Run runs code over memory, as P8 asks.
func Run(code []api.Op, memory []int, steps int) ([]int, []int, api.Errno) {
	if !isCode(code) {
		return nil, nil, api.ErrCode
	}
	if !isMemory(memory) {
		return nil, nil, api.ErrMemory
	}
	if steps < 0 || steps > api.MaxSteps {
		return nil, nil, api.ErrArg
	}
	m := machine{memory: make([]int, api.Words)}
	for i := 0; i < len(memory) && i < len(m.memory); i++ {
		m.memory[i] = memory[i]
	}
	e := m.run(code, steps)
	if e != api.OK {
		return nil, nil, e
	}
	return m.memory, m.trace, api.OK
}

// run does one operation after the other. What ends it is asked in the order
// that P8 names.
func (m *machine) run(code []api.Op, steps int) api.Errno {
	for done := 0; m.next < len(code); done++ {
		if done >= steps {
			return api.ErrSteps
		}
		op := code[m.next]
		if !m.hasAddress(op) {
			return api.ErrAddress
		}
		m.do(op)
	}
	return api.OK
}

// hasAddress tells whether there is the address that the operation asks for;
// most operations ask for none.
func (m *machine) hasAddress(op api.Op) bool {
	if op.Kind != api.Load && op.Kind != api.Store {
		return true
	}
	return m.registers[op.B] < len(m.memory)
}

// do does an operation whose address, if it asks for one, there is.
func (m *machine) do(op api.Op) {
	m.next++
	switch op.Kind {
	case api.Set:
		m.registers[op.A] = op.B
	case api.Load:
		address := m.registers[op.B]
		m.registers[op.A] = m.memory[address]
		m.trace = append(m.trace, address)
	case api.Store:
		address := m.registers[op.B]
		m.memory[address] = m.registers[op.A]
		m.trace = append(m.trace, api.StoreMark+address)
	case api.Jump:
		m.jump(op)
	default:
		m.registers[op.A] = joined(op.Kind, m.registers[op.B], m.registers[op.C])
	}
}

func (m *machine) jump(op api.Op) {
	taken := 0
	if m.registers[op.A] != 0 {
		m.next = op.B
		taken = 1
	}
	m.trace = append(m.trace, api.JumpMark+taken)
}

// joined is what an operation on two registers makes of their words.
func joined(kind, x, y int) int {
	switch kind {
	case api.Add:
		sum := x + y
		if sum > api.MaxWord {
			sum -= api.MaxWord + 1
		}
		return sum
	case api.And:
		return x & y
	case api.Or:
		return x | y
	case api.Xor:
		return x ^ y
	}
	if x == y {
		return api.MaxWord
	}
	return 0
}
