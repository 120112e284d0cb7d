package surety

import (
	"math/rand"

	"surety/api"
)

// edges: numbers at which something the document says changes.
var edges = []int{api.Least, api.Least + 1, -1 << 32, -1<<31 - 1, -1 << 31, -256, -16, -8, -2, -1, 0, 1, 2, 7, 8, 15, 16, 63, 64, 255, 256, 1 << 31, 1<<31 + 1, 1 << 32, 1 << 62, api.Most - 1, api.Most}

// needed: the fields of each op, in the document's words.
var needed = [12]string{"", "AK", "AB", "ABC", "ABC", "ABC", "ABC", "AB", "AB", "K", "ABK", "ABK"}

func has(op int, field byte) bool {
	for n := range len(needed[op]) {
		if needed[op][n] == field {
			return true
		}
	}
	return false
}

func isJump(op int) bool { return op >= 9 && op <= 11 }

// mayBe: the document's words on one instruction of a program of count, told apart from the program's own.
func mayBe(i api.Ins, count int) bool {
	if i.Op < 0 || i.Op > 11 {
		return false
	}
	for n, v := range []int{i.A, i.B, i.C} {
		if has(i.Op, "ABC"[n]) && (v < 0 || v > 7) || !has(i.Op, "ABC"[n]) && v != 0 {
			return false
		}
	}
	return i.Op == 1 || isJump(i.Op) && i.K >= 0 && i.K < count || !isJump(i.Op) && i.K == 0
}

func wantRight(p []api.Ins) (api.Errno, int) {
	if len(p) < 1 || len(p) > 64 {
		return api.ErrProgram, 0
	}
	for at, i := range p {
		if !mayBe(i, len(p)) {
			return api.ErrProgram, at
		}
	}
	return api.OK, 0
}

func someNumber(r *rand.Rand) int {
	switch r.Intn(4) {
	case 0:
		return edges[r.Intn(len(edges))]
	case 1:
		return int(r.Uint64())
	}
	return r.Intn(20) - 2
}

func someRegs(r *rand.Rand) [api.Regs]int {
	var regs [api.Regs]int
	for n := range regs {
		regs[n] = someNumber(r)
	}
	return regs
}

// rightIns: any instruction that may stand in a program of count.
func rightIns(r *rand.Rand, count int) api.Ins {
	i := api.Ins{Op: r.Intn(12)}
	if i.Op == api.Halt && r.Intn(3) > 0 {
		i.Op = api.Set
	}
	for n, f := range []*int{&i.A, &i.B, &i.C} {
		if has(i.Op, "ABC"[n]) {
			*f = r.Intn(8)
		}
	}
	if i.Op == api.Set {
		i.K = someNumber(r)
	} else if isJump(i.Op) {
		i.K = r.Intn(count)
	}
	return i
}

func rightProgram(r *rand.Rand) []api.Ins {
	count := 1 + r.Intn(12)
	if r.Intn(8) == 0 {
		count = 1 + r.Intn(64)
	}
	p := make([]api.Ins, count)
	for at := range p {
		p[at] = rightIns(r, count)
	}
	return p
}

// anyProgram: mostly wrong ones, some of them at one place alone.
func anyProgram(r *rand.Rand) []api.Ins {
	p := rightProgram(r)
	switch r.Intn(4) {
	case 0:
		return make([]api.Ins, r.Intn(70))
	case 1:
		for at := range p {
			p[at] = api.Ins{Op: someNumber(r), A: someNumber(r), B: someNumber(r), C: someNumber(r), K: someNumber(r)}
		}
	case 2:
		at := r.Intn(len(p))
		fields := []*int{&p[at].Op, &p[at].A, &p[at].B, &p[at].C, &p[at].K}
		*fields[r.Intn(5)] = someNumber(r)
	}
	return p
}
