// Package surety: programs that bring their proof: see DOC.md.
package surety

import (
	"surety/api"
	"surety/code"
	"surety/machine"
	"surety/proof"
	"surety/ranges"
)

// Thread is a program that was taken.
type Thread struct {
	program machine.Program
	entry   api.State
}

// Right tells whether a program is right (P3).
func Right(p []api.Ins) (api.Errno, int) { return code.Right(p) }

// Encode writes a program as bytes (P3).
func Encode(p []api.Ins) (string, api.Errno) {
	if e, _ := code.Right(p); e != api.OK {
		return "", e
	}
	return code.Encode(p), api.OK
}

// Decode reads a program (P3).
func Decode(s string) ([]api.Ins, api.Errno) { return code.Decode(s) }

// Run runs a program (P4).
func Run(p []api.Ins, regs [api.Regs]int, fuel int) (api.Outcome, api.Errno) {
	if e, _ := code.Right(p); e != api.OK {
		return api.Outcome{}, e
	}
	return machine.ProgramOf(p).Run(regs, fuel), api.OK
}

// Trace tells what a run comes to (P4).
func Trace(p []api.Ins, regs [api.Regs]int, fuel int) ([]api.Visit, api.Errno) {
	if e, _ := code.Right(p); e != api.OK {
		return nil, e
	}
	return machine.ProgramOf(p).Trace(regs, fuel), api.OK
}

// Check checks a certificate (P5).
func Check(p []api.Ins, entry api.State, c []api.Claim) (api.Errno, int) {
	if e, at := code.Right(p); e != api.OK {
		return e, at
	}
	return proof.Check(p, entry, c)
}

// Prove finds a certificate (P6).
func Prove(p []api.Ins, entry api.State) ([]api.Claim, api.Errno, int) {
	if e, at := code.Right(p); e != api.OK {
		return nil, e, at
	}
	return proof.Prove(p, entry)
}

// Compile makes a thread of a program that is taken (P7).
func Compile(p []api.Ins, entry api.State, c []api.Claim) (*Thread, api.Errno, int) {
	if e, at := Check(p, entry, c); e != api.OK {
		return nil, e, at
	}
	return &Thread{program: machine.ProgramOf(p).Sure(), entry: entry}, api.OK, 0
}

// Run runs a thread (P7).
func (t *Thread) Run(regs [api.Regs]int, fuel int) (api.Outcome, api.Errno) {
	// What the program was taken for holds only of runs that begin within entry.
	if !ranges.AreIn(regs, t.entry) {
		return api.Outcome{}, api.ErrArg
	}
	return t.program.Run(regs, fuel), api.OK
}
