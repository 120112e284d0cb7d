package code

import "surety/api"

// Right tells whether a program is right, and if not, at which instruction.
func Right(p []api.Ins) (api.Errno, int) {
	if len(p) == 0 || len(p) > api.MaxCode {
		return api.ErrProgram, 0
	}
	for at, i := range p {
		if !mayStand(i, len(p)) {
			return api.ErrProgram, at
		}
	}
	return api.OK, 0
}

// mayStand tells whether an instruction may stand in a program of so many.
func mayStand(i api.Ins, count int) bool {
	if i.Op < 0 || i.Op >= len(shapes) {
		return false
	}
	needed := shapes[i.Op].registers
	for n, r := range registersOf(i) {
		if n < needed && !isBelow(r, api.Regs) || n >= needed && r != 0 {
			return false
		}
	}
	switch shapes[i.Op].k {
	case numberK:
		return true
	case placeK:
		return isBelow(i.K, count)
	}
	return i.K == 0
}

func isBelow(n, bound int) bool {
	return n >= 0 && n < bound
}
