package proof

import (
	"slices"

	"surety/api"
	"surety/machine"
	"surety/ranges"
)

// patience is how many passes may change a mark that a jump goes back to as little as they need. Without an end to it, a bound that rises by 1 in each pass would be changed by all but endless passes.
const patience = 3

// Prove finds a certificate of a right program, if what it finds is one.
func Prove(p []api.Ins, entry api.State) ([]api.Claim, api.Errno, int) {
	if !ranges.IsState(entry) {
		return nil, api.ErrArg, 0
	}
	v := proverOf(machine.ProgramOf(p))
	v.settle(entry)
	c := claimsOf(v.states)
	if e, at := Check(p, entry, c); e != api.OK {
		return nil, e, at
	}
	return c, api.OK, 0
}

// prover takes all that it is asked of, and widens the marks' states for it.
type prover struct {
	route
	backs   []bool // the marks that some jump goes back to
	passes  []int  // of each mark, how many passes ahead of this one changed it
	changed []bool // the marks that this pass has changed
}

func proverOf(program machine.Program) *prover {
	count := len(program)
	return &prover{
		route:   route{program: program, marks: marksOf(program), states: make([]ranges.Place, count)},
		backs:   backsOf(program),
		passes:  make([]int, count),
		changed: make([]bool, count),
	}
}

// settle makes passes till one changes nothing.
func (v *prover) settle(entry api.State) {
	for {
		v.pass(entry, v)
		if !slices.Contains(v.changed, true) {
			return
		}
		v.count()
	}
}

// count ends a pass. It counts here, not at each change: a pass may change a mark several times, and is one pass still.
func (v *prover) count() {
	for mark, changed := range v.changed {
		if changed {
			v.passes[mark]++
		}
		v.changed[mark] = false
	}
}

func (v *prover) takes(mark int, come ranges.Place) bool {
	old := v.states[mark]
	wider := old.Join(come)
	if v.backs[mark] && v.passes[mark] >= patience {
		wider = old.Stretch(come)
	}
	if wider != old {
		v.states[mark] = wider
		v.changed[mark] = true
	}
	return true
}

func (v *prover) danger(at int, s api.State) api.Errno {
	return api.OK
}
