package machine

import (
	"math/rand"
	"testing"

	"surety/api"
	"surety/ranges"
)

var someEnds = []int{api.Least, api.Least + 1, -1 << 31, -3, -2, -1, 0, 1, 2, 3, 15, 16, 1 << 31, api.Most - 1, api.Most}

func someState(r *rand.Rand) api.State {
	var s api.State
	for n := range s {
		lo, hi := someEnds[r.Intn(len(someEnds))], someEnds[r.Intn(len(someEnds))]
		s[n] = api.Range{Lo: min(lo, hi), Hi: max(lo, hi)}
	}
	return s
}

// regsIn: some registers within a state, at its ends or between them.
func regsIn(r *rand.Rand, s api.State) [api.Regs]int {
	var regs [api.Regs]int
	for n := range regs {
		regs[n] = []int{s[n].Lo, s[n].Hi, someEnds[r.Intn(len(someEnds))]}[r.Intn(3)]
		regs[n] = min(max(regs[n], s[n].Lo), s[n].Hi)
	}
	return regs
}

func areIn(regs [api.Regs]int, p ranges.Place) bool {
	for n := range regs {
		if !ranges.Has(p.State[n], regs[n]) {
			return false
		}
	}
	return p.Reached
}

// What an instruction does lies in what becomes of the state; where it can end, the state tells so.
func TestFlowHoldsWhatIsDone(t *testing.T) {
	const here, target = 1, 7
	r := rand.New(rand.NewSource(1))
	ways := map[string]int{}
	for range 200000 {
		i := api.Ins{Op: r.Intn(12), A: r.Intn(8), B: r.Intn(8), C: r.Intn(8), K: target}
		s := someState(r)
		regs := regsIn(r, s)
		program := Program{instructionOf(i)}
		on, far := program.Flow(0, s)
		m := &machine{regs: regs, at: here}
		for n := range m.words {
			m.words[n] = someEnds[r.Intn(len(someEnds))]
		}
		kind := program[0].do(m)
		switch {
		case kind == api.Done:
			ways["done"]++
			if on.Reached || far.Reached {
				t.Fatalf("P5: of %v by %v becomes %v, %v", s, i, on, far)
			}
		case kind == api.Zero || kind == api.Bounds:
			ways["fails"]++
			if program.Danger(0, s) == api.OK {
				t.Fatalf("P5: %v is no danger for %v, but of %v comes %d", s, i, regs, kind)
			}
		case m.at == target:
			ways["far"]++
			if !areIn(m.regs, far) {
				t.Fatalf("P5: %v by %v goes far with %v, the state with %v", regs, i, m.regs, far)
			}
		default:
			ways["on"]++
			if !areIn(m.regs, on) {
				t.Fatalf("P5: %v by %v goes on with %v, the state with %v", regs, i, m.regs, on)
			}
		}
	}
	for _, way := range []string{"done", "fails", "far", "on"} {
		if ways[way] < 1000 {
			t.Errorf("P5: the way %q was gone %d times", way, ways[way])
		}
	}
}

func TestTargets(t *testing.T) {
	for op := range 12 {
		k, jumps := Program{instructionOf(api.Ins{Op: op, K: 5})}.Target(0)
		if want := op >= api.Jump; jumps != want || jumps && k != 5 {
			t.Errorf("P5: op %d goes to %d: %t", op, k, jumps)
		}
	}
}

func TestDangers(t *testing.T) {
	for op := range 12 {
		for _, c := range []struct {
			r            api.Range
			word, divide bool
		}{
			{api.Range{Lo: 0, Hi: 15}, false, true},
			{api.Range{Lo: 0, Hi: 16}, true, true},
			{api.Range{Lo: -1, Hi: 15}, true, true},
			{api.Range{Lo: 16, Hi: 16}, true, false},
			{api.Range{Lo: -9, Hi: -1}, true, false},
			{api.Range{Lo: 1, Hi: 9}, false, false},
			{api.Range{Lo: -9, Hi: 0}, true, true},
		} {
			want := api.OK
			register := map[int]int{api.Load: 2, api.Store: 1, api.Div: 3}[op]
			if c.word && (op == api.Load || op == api.Store) {
				want = api.ErrBounds
			} else if c.divide && op == api.Div {
				want = api.ErrZero
			}
			var s api.State
			for n := range s {
				s[n] = api.Range{Lo: 5, Hi: 5}
			}
			s[register] = c.r
			p := Program{instructionOf(api.Ins{Op: op, A: 1, B: 2, C: 3})}
			if got := p.Danger(0, s); got != want {
				t.Errorf("P5: op %d with %v has danger %d, want %d", op, c.r, got, want)
			}
		}
	}
}
