// Package proof checks certificates of programs that are right.
package proof

import (
	"surety/api"
	"surety/machine"
	"surety/ranges"
)

// Check checks a certificate of a right program.
func Check(p []api.Ins, entry api.State, c []api.Claim) (api.Errno, int) {
	if !ranges.IsState(entry) {
		return api.ErrArg, 0
	}
	program := machine.ProgramOf(p)
	marks := marksOf(program)
	if n := firstWrong(marks, c); n < len(c) {
		return api.ErrCert, n
	}
	k := checker{program: program, marks: marks, claimed: layOut(len(p), c)}
	return k.pass(entry)
}

// checker has what a pass goes over, and what it holds the states against.
type checker struct {
	program machine.Program
	marks   []bool
	claimed []ranges.Place
}

func (k checker) pass(entry api.State) (api.Errno, int) {
	come := ranges.With(entry)
	for at := range k.program {
		on, e := k.step(at, come)
		if e != api.OK {
			return e, at
		}
		come = on
	}
	if come.Reached {
		return api.ErrEnd, len(k.program)
	}
	return api.OK, 0
}

// step goes by one instruction, with what comes there from the one before it, and tells what goes on to the next one.
func (k checker) step(at int, come ranges.Place) (ranges.Place, api.Errno) {
	here := come
	if k.marks[at] {
		here = k.claimed[at]
		if !come.LiesIn(here) {
			return ranges.Place{}, api.ErrState
		}
	}
	if !here.Reached {
		return ranges.Place{}, api.OK
	}
	if danger := k.program.Danger(at, here.State); danger != api.OK {
		return ranges.Place{}, danger
	}
	on, far := k.program.Flow(at, here.State)
	if target, jumps := k.program.Target(at); jumps && !far.LiesIn(k.claimed[target]) {
		return ranges.Place{}, api.ErrState
	}
	return on, api.OK
}
