package machine

import (
	"surety/api"
	"surety/ranges"
)

// goesOn is what an instruction tells by which the run does not end.
const goesOn = 0

// instruction is an op with what it needs.
type instruction interface {
	// do tells by which kind of outcome the run ends here, or goesOn. The machine stands at the next instruction already, so that only a jump has to say where it goes.
	do(m *machine) int
	// flow tells what becomes of a state ahead of it: on the way on, and on the way far off to where it jumps.
	flow(s api.State) (on, far ranges.Place)
}

// instructionOf makes an instruction of a right program.
func instructionOf(i api.Ins) instruction {
	reckons := reckoning{a: i.A, b: i.B, c: i.C}
	switch i.Op {
	case api.Set:
		return set{a: i.A, k: i.K}
	case api.Move:
		return move{a: i.A, b: i.B}
	case api.Add:
		return add{reckons}
	case api.Sub:
		return sub{reckons}
	case api.Mul:
		return mul{reckons}
	case api.Div:
		return div{a: i.A, b: i.B, c: i.C}
	case api.Load:
		return load{a: i.A, b: i.B}
	case api.Store:
		return store{a: i.A, b: i.B}
	case api.Jump:
		return jump{k: i.K}
	case api.Less:
		return less{a: i.A, b: i.B, k: i.K}
	case api.Same:
		return same{a: i.A, b: i.B, k: i.K}
	}
	return halt{}
}

type halt struct{}

func (i halt) do(m *machine) int {
	return api.Done
}

type set struct{ a, k int }

func (i set) do(m *machine) int {
	m.regs[i.a] = i.k
	return goesOn
}

type move struct{ a, b int }

func (i move) do(m *machine) int {
	m.regs[i.a] = m.regs[i.b]
	return goesOn
}

// reckoning is what add, sub and mul have in common. They can't fail, so div is none of them.
type reckoning struct{ a, b, c int }

func (r reckoning) left(m *machine) int {
	return m.regs[r.b]
}

func (r reckoning) right(m *machine) int {
	return m.regs[r.c]
}

func (r reckoning) put(m *machine, value int) int {
	m.regs[r.a] = value
	return goesOn
}

type add struct{ reckoning }

func (i add) do(m *machine) int {
	return i.put(m, i.left(m)+i.right(m))
}

type sub struct{ reckoning }

func (i sub) do(m *machine) int {
	return i.put(m, i.left(m)-i.right(m))
}

type mul struct{ reckoning }

func (i mul) do(m *machine) int {
	return i.put(m, i.left(m)*i.right(m))
}

type div struct{ a, b, c int }

func (i div) do(m *machine) int {
	if m.regs[i.c] == 0 {
		return api.Zero
	}
	m.regs[i.a] = m.regs[i.b] / m.regs[i.c]
	return goesOn
}

type load struct{ a, b int }

func (i load) do(m *machine) int {
	word := m.regs[i.b]
	if !isWord(word) {
		return api.Bounds
	}
	m.regs[i.a] = m.words[word]
	return goesOn
}

type store struct{ a, b int }

func (i store) do(m *machine) int {
	word := m.regs[i.a]
	if !isWord(word) {
		return api.Bounds
	}
	m.words[word] = m.regs[i.b]
	return goesOn
}

func isWord(n int) bool {
	return n >= 0 && n < api.Words
}

type jump struct{ k int }

func (i jump) do(m *machine) int {
	m.at = i.k
	return goesOn
}

type less struct{ a, b, k int }

func (i less) do(m *machine) int {
	if m.regs[i.a] < m.regs[i.b] {
		m.at = i.k
	}
	return goesOn
}

type same struct{ a, b, k int }

func (i same) do(m *machine) int {
	if m.regs[i.a] == m.regs[i.b] {
		m.at = i.k
	}
	return goesOn
}
