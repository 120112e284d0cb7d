package machine

import (
	"math/rand"
	"slices"
	"testing"

	"surety/api"
)

func TestInstructionOfEachOp(t *testing.T) {
	three := reckoning{a: 1, b: 2, c: 3}
	for _, c := range []struct {
		ins  api.Ins
		want instruction
	}{
		{api.Ins{Op: api.Halt}, halt{}},
		{api.Ins{Op: api.Set, A: 1, K: -9}, set{a: 1, k: -9}},
		{api.Ins{Op: api.Move, A: 1, B: 2}, move{a: 1, b: 2}},
		{api.Ins{Op: api.Add, A: 1, B: 2, C: 3}, add{three}},
		{api.Ins{Op: api.Sub, A: 1, B: 2, C: 3}, sub{three}},
		{api.Ins{Op: api.Mul, A: 1, B: 2, C: 3}, mul{three}},
		{api.Ins{Op: api.Div, A: 1, B: 2, C: 3}, div{a: 1, b: 2, c: 3}},
		{api.Ins{Op: api.Load, A: 1, B: 2}, load{a: 1, b: 2}},
		{api.Ins{Op: api.Store, A: 1, B: 2}, store{a: 1, b: 2}},
		{api.Ins{Op: api.Jump, K: 4}, jump{k: 4}},
		{api.Ins{Op: api.Less, A: 1, B: 2, K: 4}, less{a: 1, b: 2, k: 4}},
		{api.Ins{Op: api.Same, A: 1, B: 2, K: 4}, same{a: 1, b: 2, k: 4}},
	} {
		if got := instructionOf(c.ins); got != c.want {
			t.Errorf("P4: instruction of %+v is %T %+v, want %T %+v", c.ins, got, got, c.want, c.want)
		}
	}
}

func TestFuelIsBounded(t *testing.T) {
	for _, c := range []struct{ fuel, want int }{
		{api.Least, 0}, {-1, 0}, {0, 0}, {1, 1}, {9999, 9999}, {10000, 10000}, {10001, 10000}, {api.Most, 10000},
	} {
		if m := (Program{halt{}}).start([api.Regs]int{}, c.fuel); m.fuel != c.want {
			t.Errorf("P4: fuel %d is taken as %d, want %d", c.fuel, m.fuel, c.want)
		}
	}
}

// P7: a sure program does what the program does, wherever that does not end by ZERO or BOUNDS.
func TestSureDoesTheSame(t *testing.T) {
	r := rand.New(rand.NewSource(2))
	done := [12]int{}
	for range 100000 {
		i := api.Ins{Op: r.Intn(12), A: r.Intn(8), B: r.Intn(8), C: r.Intn(8), K: 7}
		p := Program{instructionOf(i)}
		looking := &machine{at: 1}
		for n := range looking.regs {
			looking.regs[n] = someEnds[r.Intn(len(someEnds))]
		}
		for n := range looking.words {
			looking.words[n] = r.Int()
		}
		before := *looking
		kind := p[0].do(looking)
		if kind == api.Zero || kind == api.Bounds {
			continue
		}
		done[i.Op]++
		sure := &before
		if got := p.Sure()[0].do(sure); got != kind || sure.regs != looking.regs || sure.words != looking.words || sure.at != looking.at {
			t.Fatalf("P7: %v without a look answers %d, %+v, want %d, %+v", i, got, sure, kind, looking)
		}
	}
	for op, n := range done {
		if n < 500 {
			t.Errorf("P7: op %d was done %d times", op, n)
		}
	}
}

// P7: what is made sure is another program: the first one looks as before.
func TestSureLeavesTheProgram(t *testing.T) {
	p := ProgramOf([]api.Ins{{Op: api.Div}, {Op: api.Load}, {Op: api.Store}, {}})
	sure := p.Sure()
	want := Program{sureDiv{div{}}, sureLoad{load{}}, sureStore{store{}}, halt{}}
	if !slices.Equal(sure, want) {
		t.Errorf("P7: of %v is made %v", p, sure)
	}
	if o := p.Run([api.Regs]int{}, 9); o != (api.Outcome{Kind: api.Zero, Steps: 1}) {
		t.Errorf("P4: a Div by 0 ends by %+v", o)
	}
}
