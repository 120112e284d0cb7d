package surety

import (
	"math/rand"
	"slices"
	"testing"

	"surety/api"
)

// sums is the document's second example.
var sums = []api.Ins{
	{Op: api.Set, A: 1, K: 0}, {Op: api.Set, A: 2, K: 10}, {Op: api.Set, A: 3, K: 1},
	{Op: api.Less, A: 1, B: 2, K: 5}, {Op: api.Halt},
	{Op: api.Add, A: 0, B: 0, C: 1}, {Op: api.Add, A: 1, B: 1, C: 3}, {Op: api.Jump, K: 3},
}

// walk: the document's words on a run, apart from the program's own: its outcome, and all that it comes to.
func walk(p []api.Ins, regs [api.Regs]int, fuel int) (api.Outcome, []api.Visit) {
	var words [16]int
	var visits []api.Visit
	at, steps := 0, 0
	ends := func(kind, value int) (api.Outcome, []api.Visit) {
		return api.Outcome{Kind: kind, At: at, Value: value, Steps: steps}, visits
	}
	for {
		if at >= len(p) {
			return ends(api.End, 0)
		}
		if steps >= fuel || steps >= 10000 {
			return ends(api.Fuel, 0)
		}
		visits = append(visits, api.Visit{At: at, Regs: regs})
		steps++
		i := p[at]
		a, b, c := regs[i.A], regs[i.B], regs[i.C]
		next := at + 1
		switch i.Op {
		case api.Halt:
			return ends(api.Done, regs[0])
		case api.Set:
			regs[i.A] = i.K
		case api.Move:
			regs[i.A] = b
		case api.Add:
			regs[i.A] = int(uint64(b) + uint64(c))
		case api.Sub:
			regs[i.A] = int(uint64(b) - uint64(c))
		case api.Mul:
			regs[i.A] = int(uint64(b) * uint64(c))
		case api.Div:
			if c == 0 {
				return ends(api.Zero, 0)
			}
			regs[i.A] = cut(b, c)
		case api.Load:
			if b < 0 || b > 15 {
				return ends(api.Bounds, 0)
			}
			regs[i.A] = words[b]
		case api.Store:
			if a < 0 || a > 15 {
				return ends(api.Bounds, 0)
			}
			words[a] = b
		}
		if i.Op == api.Jump || i.Op == api.Less && a < b || i.Op == api.Same && a == b {
			next = i.K
		}
		at = next
	}
}

// cut divides without signs, and gives the sign back: towards 0, and wrapping round.
func cut(b, c int) int {
	ub, uc := uint64(b), uint64(c)
	if b < 0 {
		ub = -ub
	}
	if c < 0 {
		uc = -uc
	}
	if (b < 0) != (c < 0) {
		return int(-(ub / uc))
	}
	return int(ub / uc)
}

func TestRunExample(t *testing.T) {
	for _, c := range []struct {
		fuel int
		want api.Outcome
	}{
		{10000, api.Outcome{Kind: api.Done, At: 4, Value: 45, Steps: 45}},
		{45, api.Outcome{Kind: api.Done, At: 4, Value: 45, Steps: 45}},
		{44, api.Outcome{Kind: api.Fuel, At: 4, Steps: 44}},
		{5, api.Outcome{Kind: api.Fuel, At: 6, Steps: 5}},
		{0, api.Outcome{Kind: api.Fuel}},
		{-1, api.Outcome{Kind: api.Fuel}},
	} {
		if o, e := Run(sums, [api.Regs]int{}, c.fuel); o != c.want || e != api.OK {
			t.Errorf("P4: Run of sums with fuel %d = %+v, %d, want %+v", c.fuel, o, e, c.want)
		}
	}
}

func TestRunEnds(t *testing.T) {
	around := []api.Ins{{Op: api.Jump, K: 0}}
	divide := []api.Ins{{Op: api.Set, A: 5, K: 3}, {Op: api.Div, A: 0, B: 1, C: 2}, {}}
	load := []api.Ins{{Op: api.Load, A: 0, B: 1}, {}}
	store := []api.Ins{{Op: api.Store, A: 1, B: 2}, {Op: api.Load, A: 0, B: 1}, {}}
	for _, c := range []struct {
		p    []api.Ins
		regs [api.Regs]int
		fuel int
		want api.Outcome
	}{
		{around, [api.Regs]int{}, 9999, api.Outcome{Kind: api.Fuel, Steps: 9999}},
		{around, [api.Regs]int{}, 10000, api.Outcome{Kind: api.Fuel, Steps: 10000}},
		{around, [api.Regs]int{}, 10001, api.Outcome{Kind: api.Fuel, Steps: 10000}},
		{around, [api.Regs]int{}, api.Most, api.Outcome{Kind: api.Fuel, Steps: 10000}},
		{around, [api.Regs]int{}, api.Least, api.Outcome{Kind: api.Fuel}},
		{divide, [api.Regs]int{7, 8, 0}, 9, api.Outcome{Kind: api.Zero, At: 1, Steps: 2}},
		{divide, [api.Regs]int{7, 0, 0}, 9, api.Outcome{Kind: api.Zero, At: 1, Steps: 2}},
		{divide, [api.Regs]int{7, 8, 0}, 1, api.Outcome{Kind: api.Fuel, At: 1, Steps: 1}},
		{divide, [api.Regs]int{7, 7, -2}, 9, api.Outcome{Kind: api.Done, At: 2, Value: -3, Steps: 3}},
		{divide, [api.Regs]int{7, -7, -2}, 9, api.Outcome{Kind: api.Done, At: 2, Value: 3, Steps: 3}},
		{divide, [api.Regs]int{7, api.Least, -1}, 9, api.Outcome{Kind: api.Done, At: 2, Value: api.Least, Steps: 3}},
		{load, [api.Regs]int{9, 15}, 9, api.Outcome{Kind: api.Done, At: 1, Steps: 2}},
		{load, [api.Regs]int{9, 16}, 9, api.Outcome{Kind: api.Bounds, Steps: 1}},
		{load, [api.Regs]int{9, -1}, 9, api.Outcome{Kind: api.Bounds, Steps: 1}},
		{store, [api.Regs]int{9, 0, 6}, 9, api.Outcome{Kind: api.Done, At: 2, Value: 6, Steps: 3}},
		{store, [api.Regs]int{9, 15, 6}, 9, api.Outcome{Kind: api.Done, At: 2, Value: 6, Steps: 3}},
		{store, [api.Regs]int{9, 16, 6}, 9, api.Outcome{Kind: api.Bounds, Steps: 1}},
		{store, [api.Regs]int{9, api.Most, 6}, 9, api.Outcome{Kind: api.Bounds, Steps: 1}},
		{[]api.Ins{{Op: api.Set, K: 5}}, [api.Regs]int{}, 1, api.Outcome{Kind: api.End, At: 1, Steps: 1}},
		{[]api.Ins{{Op: api.Set, K: 5}}, [api.Regs]int{}, 0, api.Outcome{Kind: api.Fuel}},
		{[]api.Ins{{Op: api.Same, A: 3, B: 4, K: 0}}, [api.Regs]int{0, 0, 0, 1, 2}, 9, api.Outcome{Kind: api.End, At: 1, Steps: 1}},
		{[]api.Ins{{Op: api.Less, A: 3, B: 3, K: 0}, {}}, [api.Regs]int{4}, 9, api.Outcome{Kind: api.Done, At: 1, Value: 4, Steps: 2}},
		{[]api.Ins{{Op: api.Add, A: 0, B: 0, C: 0}, {}}, [api.Regs]int{api.Most}, 9, api.Outcome{Kind: api.Done, At: 1, Value: -2, Steps: 2}},
	} {
		if o, e := Run(c.p, c.regs, c.fuel); o != c.want || e != api.OK {
			t.Errorf("P4: Run(%v, %v, %d) = %+v, %d, want %+v", c.p, c.regs, c.fuel, o, e, c.want)
		}
	}
}

// All words are 0 at first, and each is its own.
func TestRunWords(t *testing.T) {
	for word := range 16 {
		for other := range 16 {
			p := []api.Ins{{Op: api.Store, A: 1, B: 2}, {Op: api.Load, A: 0, B: 3}, {}}
			want := api.Outcome{Kind: api.Done, At: 2, Steps: 3}
			if word == other {
				want.Value = 77
			}
			if o, e := Run(p, [api.Regs]int{5, word, 77, other}, 9); o != want || e != api.OK {
				t.Errorf("P4: word %d after a store to %d: %+v, %d, want %+v", other, word, o, e, want)
			}
		}
	}
}

func someFuel(r *rand.Rand) int {
	if r.Intn(20) == 0 {
		return someNumber(r)
	}
	return r.Intn(150)
}

func TestRunAndTraceOfMany(t *testing.T) {
	r := rand.New(rand.NewSource(8))
	kinds := [6]int{}
	for range 20000 {
		p, regs, fuel := rightProgram(r), someRegs(r), someFuel(r)
		want, visits := walk(p, regs, fuel)
		visits = visits[:min(len(visits), 100)]
		kinds[want.Kind]++
		if o, e := Run(p, regs, fuel); o != want || e != api.OK {
			t.Fatalf("P4: Run(%v, %v, %d) = %+v, %d, want %+v", p, regs, fuel, o, e, want)
		}
		if l, e := Trace(p, regs, fuel); !slices.Equal(l, visits) || e != api.OK {
			t.Fatalf("P4: Trace(%v, %v, %d) = %v, %d, want %v", p, regs, fuel, l, e, visits)
		}
	}
	for kind := api.Done; kind <= api.End; kind++ {
		if kinds[kind] < 100 {
			t.Errorf("P4: only %d runs of kind %d were tried", kinds[kind], kind)
		}
	}
}

func TestTraceOfExample(t *testing.T) {
	want := []api.Visit{
		{At: 0}, {At: 1}, {At: 2, Regs: [api.Regs]int{0, 0, 10}},
		{At: 3, Regs: [api.Regs]int{0, 0, 10, 1}}, {At: 5, Regs: [api.Regs]int{0, 0, 10, 1}}, {At: 6, Regs: [api.Regs]int{0, 0, 10, 1}},
	}
	if l, e := Trace(sums, [api.Regs]int{}, 6); !slices.Equal(l, want) || e != api.OK {
		t.Errorf("P4: Trace of sums = %v, %d, want %v", l, e, want)
	}
}

func TestTraceLengths(t *testing.T) {
	around := []api.Ins{{Op: api.Jump, K: 0}}
	for _, c := range []struct {
		p    []api.Ins
		fuel int
		want int
	}{
		{around, api.Least, 0}, {around, 0, 0}, {around, 1, 1}, {around, 99, 99}, {around, 100, 100}, {around, 101, 100}, {around, api.Most, 100},
		{make([]api.Ins, 1), 9, 1},
		{[]api.Ins{{Op: api.Set}}, 9, 1},
		{[]api.Ins{{Op: api.Div}, {}}, 9, 1},
		{[]api.Ins{{Op: api.Set, K: 16}, {Op: api.Load}, {}}, 9, 2},
		{[]api.Ins{{Op: api.Set, K: -1}, {Op: api.Store}, {}}, 1, 1},
	} {
		if l, e := Trace(c.p, [api.Regs]int{}, c.fuel); len(l) != c.want || e != api.OK {
			t.Errorf("P4: Trace(%v, %d): %d visits, %d, want %d", c.p, c.fuel, len(l), e, c.want)
		}
	}
}

func TestRunAndTraceOfWrongPrograms(t *testing.T) {
	r := rand.New(rand.NewSource(9))
	for range 5000 {
		p, regs := anyProgram(r), someRegs(r)
		if want, _ := wantRight(p); want == api.OK {
			continue
		}
		if o, e := Run(p, regs, 9); o != (api.Outcome{}) || e != api.ErrProgram {
			t.Fatalf("P4: Run(%v) = %+v, %d, want ErrProgram", p, o, e)
		}
		if l, e := Trace(p, regs, 9); len(l) != 0 || e != api.ErrProgram {
			t.Fatalf("P4: Trace(%v) = %v, %d, want ErrProgram", p, l, e)
		}
	}
}
