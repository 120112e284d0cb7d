package machine

import (
	"testing"

	"surety/api"
)

func TestInstructionOfEachOp(t *testing.T) {
	three := reckoning{a: 1, b: 2, c: 3}
	for _, c := range []struct {
		ins  api.Ins
		want instruction
	}{
		{api.Ins{Op: api.Halt}, halt{}},
		{api.Ins{Op: api.Set, A: 1, K: -9}, set{a: 1, k: -9}},
		{api.Ins{Op: api.Move, A: 1, B: 2}, move{a: 1, b: 2}},
		{api.Ins{Op: api.Add, A: 1, B: 2, C: 3}, add{three}},
		{api.Ins{Op: api.Sub, A: 1, B: 2, C: 3}, sub{three}},
		{api.Ins{Op: api.Mul, A: 1, B: 2, C: 3}, mul{three}},
		{api.Ins{Op: api.Div, A: 1, B: 2, C: 3}, div{a: 1, b: 2, c: 3}},
		{api.Ins{Op: api.Load, A: 1, B: 2}, load{a: 1, b: 2}},
		{api.Ins{Op: api.Store, A: 1, B: 2}, store{a: 1, b: 2}},
		{api.Ins{Op: api.Jump, K: 4}, jump{k: 4}},
		{api.Ins{Op: api.Less, A: 1, B: 2, K: 4}, less{a: 1, b: 2, k: 4}},
		{api.Ins{Op: api.Same, A: 1, B: 2, K: 4}, same{a: 1, b: 2, k: 4}},
	} {
		if got := instructionOf(c.ins); got != c.want {
			t.Errorf("P4: instruction of %+v is %T %+v, want %T %+v", c.ins, got, got, c.want, c.want)
		}
	}
}

func TestFuelIsBounded(t *testing.T) {
	for _, c := range []struct{ fuel, want int }{
		{api.Least, 0}, {-1, 0}, {0, 0}, {1, 1}, {9999, 9999}, {10000, 10000}, {10001, 10000}, {api.Most, 10000},
	} {
		if m := start([]api.Ins{{}}, [api.Regs]int{}, c.fuel); m.fuel != c.want {
			t.Errorf("P4: fuel %d is taken as %d, want %d", c.fuel, m.fuel, c.want)
		}
	}
}
