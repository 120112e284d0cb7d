package proof

import (
	"surety/api"
	"surety/machine"
	"surety/ranges"
)

// route is what passes go over: a program, its marks, and the states that these have.
type route struct {
	program machine.Program
	marks   []bool
	states  []ranges.Place
}

// judge is asked on the way: it says what ends a pass.
type judge interface {
	// takes is asked of what goes to a mark. It may change the mark's state, with which the pass goes on then.
	takes(mark int, come ranges.Place) bool
	// danger is asked of a state ahead of an instruction.
	danger(at int, s api.State) api.Errno
}

// pass goes over the instructions once, and tells why and where it ends ahead of the end, or that there is a state behind it.
func (r route) pass(entry api.State, j judge) (api.Errno, int) {
	come := ranges.With(entry)
	for at := range r.program {
		on, e := r.step(at, come, j)
		if e != api.OK {
			return e, at
		}
		come = on
	}
	if come.Reached {
		return api.ErrEnd, len(r.program)
	}
	return api.OK, 0
}

// step goes by one instruction, with what comes there from the one before it, and tells what goes on to the next one.
func (r route) step(at int, come ranges.Place, j judge) (ranges.Place, api.Errno) {
	here := come
	if r.marks[at] {
		if !j.takes(at, come) {
			return ranges.Place{}, api.ErrState
		}
		here = r.states[at]
	}
	if !here.Reached {
		return ranges.Place{}, api.OK
	}
	if danger := j.danger(at, here.State); danger != api.OK {
		return ranges.Place{}, danger
	}
	on, far := r.program.Flow(at, here.State)
	if target, jumps := r.program.Target(at); jumps && !j.takes(target, far) {
		return ranges.Place{}, api.ErrState
	}
	return on, api.OK
}
