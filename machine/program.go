package machine

import (
	"surety/api"
	"surety/ranges"
)

// Program is a right program as instructions.
type Program []instruction

// ProgramOf makes the instructions of a right program.
func ProgramOf(p []api.Ins) Program {
	program := make(Program, 0, len(p))
	for _, i := range p {
		program = append(program, instructionOf(i))
	}
	return program
}

// Flow tells what becomes of a state ahead of an instruction: on the way to the next one, and on the way to where it jumps.
func (p Program) Flow(at int, s api.State) (on, far ranges.Place) {
	return p[at].flow(s)
}

// Target tells where an instruction jumps to, if it is one that jumps.
func (p Program) Target(at int) (int, bool) {
	switch i := p[at].(type) {
	case jump:
		return i.k, true
	case less:
		return i.k, true
	case same:
		return i.k, true
	}
	return 0, false
}

// Danger tells by which error a run may end at an instruction, this state ahead of it.
func (p Program) Danger(at int, s api.State) api.Errno {
	switch i := p[at].(type) {
	case div:
		if ranges.Has(s[i.c], 0) {
			return api.ErrZero
		}
	case load:
		return dangerOfWord(s[i.b])
	case store:
		return dangerOfWord(s[i.a])
	}
	return api.OK
}

func dangerOfWord(number api.Range) api.Errno {
	if !ranges.LiesIn(number, api.Range{Lo: 0, Hi: api.Words - 1}) {
		return api.ErrBounds
	}
	return api.OK
}
