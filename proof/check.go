// Package proof checks and finds certificates of programs that are right.
package proof

import (
	"surety/api"
	"surety/machine"
	"surety/ranges"
)

// Check checks a certificate of a right program.
func Check(p []api.Ins, entry api.State, c []api.Claim) (api.Errno, int) {
	if !ranges.IsState(entry) {
		return api.ErrArg, 0
	}
	program := machine.ProgramOf(p)
	marks := marksOf(program)
	if n := firstWrong(marks, c); n < len(c) {
		return api.ErrCert, n
	}
	k := checker{route{program: program, marks: marks, states: layOut(len(p), c)}}
	return k.pass(entry, k)
}

// checker holds what it is asked of against what is claimed.
type checker struct{ route }

func (k checker) takes(mark int, come ranges.Place) bool {
	return come.LiesIn(k.states[mark])
}

func (k checker) danger(at int, s api.State) api.Errno {
	return k.program.Danger(at, s)
}
