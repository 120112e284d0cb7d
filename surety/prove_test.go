package surety

import (
	"math/rand"
	"slices"
	"testing"

	"surety/api"
)

// settled: P6's words on the claims that are found, apart from the program's own.
func settled(p []api.Ins, entry api.State) []api.Claim {
	marks, states := marksIn(p), map[int]*api.State{}
	changers := map[int]map[int]bool{} // of each mark the numbers of the passes that changed it
	for pass, changes := 1, true; changes; pass++ {
		changes = false
		come := func(s *api.State, mark int) {
			old := states[mark]
			if s == nil || old != nil && within(*s, *old) {
				return
			}
			if changers[mark] == nil {
				changers[mark] = map[int]bool{}
			}
			changers[mark][pass], changes = true, true
			wider := *s
			if old != nil {
				wider = joined(*s, *old)
				if goesBackTo(p, mark) && len(changers[mark]) >= 4 {
					wider = stretched(*old, wider)
				}
			}
			states[mark] = &wider
		}
		s := &entry
		for at, i := range p {
			if marks[at] {
				come(s, at)
				s = states[at]
			}
			if s != nil {
				on, far := becomes(i, *s)
				come(far, i.K)
				s = on
			}
		}
	}
	var c []api.Claim
	for at := range p {
		if states[at] != nil {
			c = append(c, api.Claim{At: at, State: *states[at]})
		}
	}
	return c
}

func goesBackTo(p []api.Ins, mark int) bool {
	for _, i := range p[mark:] {
		if isJump(i.Op) && i.K == mark {
			return true
		}
	}
	return false
}

func stretched(old, wider api.State) api.State {
	for n := range wider {
		if wider[n].Lo < old[n].Lo {
			wider[n].Lo = api.Least
		}
		if wider[n].Hi > old[n].Hi {
			wider[n].Hi = api.Most
		}
	}
	return wider
}

// wantProve: P6's words, apart from the program's own.
func wantProve(p []api.Ins, entry api.State) ([]api.Claim, api.Errno, int) {
	if e, at := wantRight(p); e != api.OK {
		return nil, e, at
	}
	if hasEmpty(entry) {
		return nil, api.ErrArg, 0
	}
	c := settled(p, entry)
	if e, at := wantCheck(p, entry, c); e != api.OK {
		return nil, e, at
	}
	return c, api.OK, 0
}

func TestProveOfMany(t *testing.T) {
	r := rand.New(rand.NewSource(20))
	answers := [9]int{}
	loops := 0
	for range 60000 {
		p, entry := tameProgram(r), tameEntry(r)
		if r.Intn(20) == 0 {
			*bound(&entry, r) = someNumber(r)
		}
		if r.Intn(50) == 0 {
			p = anyProgram(r)
		}
		want, wantErr, wantAt := wantProve(p, entry)
		answers[wantErr]++
		if slices.ContainsFunc(want, func(c api.Claim) bool { return goesBackTo(p, c.At) && c.State != entry }) {
			loops++
		}
		if c, e, at := Prove(p, entry); !slices.Equal(c, want) || e != wantErr || at != wantAt {
			t.Fatalf("P6: Prove(%v, %v) = %v, %d, %d, want %v, %d, %d", p, entry, c, e, at, want, wantErr, wantAt)
		}
	}
	for _, e := range []api.Errno{api.OK, api.ErrProgram, api.ErrArg, api.ErrZero, api.ErrBounds, api.ErrEnd} {
		if answers[e] < 200 {
			t.Errorf("P6: only %d answers %d were tried", answers[e], e)
		}
	}
	if answers[api.ErrState]+answers[api.ErrCert]+answers[api.ErrForm] > 0 {
		t.Errorf("P6: what is found when nothing changes any more are claims that hold: %v", answers)
	}
	if loops < 1000 {
		t.Errorf("P6: only %d programs with a loop were taken", loops)
	}
}

type proven struct {
	p     []api.Ins
	entry api.State
	want  []api.Claim
}

func wantProven(t *testing.T, cases []proven) {
	t.Helper()
	for n, c := range cases {
		if got, e, at := Prove(c.p, c.entry); !slices.Equal(got, c.want) || e != api.OK || at != 0 {
			t.Errorf("P6: case %d: Prove(%v, %v) = %v, %d, %d, want %v", n, c.p, c.entry, got, e, at, c.want)
		}
	}
}

// state: 0 in each register, but for some.
func state(b but) api.State {
	var s api.State
	for n, r := range b {
		s[n] = r
	}
	return s
}

func only(n int) api.Range { return api.Range{Lo: n, Hi: n} }

func TestProveExamples(t *testing.T) {
	fill := []api.Ins{{Op: api.Set, A: 2, K: 5}, {Op: api.Set, A: 3, K: 1}, {Op: api.Less, A: 1, B: 2, K: 4}, {}, {Op: api.Store, A: 1, B: 3}, {Op: api.Add, A: 1, B: 1, C: 3}, {Op: api.Jump, K: 2}}
	guard := []api.Ins{{Op: api.Set, A: 1, K: 16}, {Op: api.Less, A: 0, B: 1, K: 3}, {}, {Op: api.Set, A: 2, K: 0}, {Op: api.Less, A: 0, B: 2, K: 2}, {Op: api.Load, A: 3, B: 0}, {}}
	wantProven(t, []proven{
		{fill, state(nil), []api.Claim{
			{At: 2, State: state(but{1: upFrom(0), 2: only(5), 3: only(1)})},
			{At: 4, State: state(but{1: {Lo: 0, Hi: 4}, 2: only(5), 3: only(1)})},
		}},
		{guard, wide(nil), []api.Claim{
			{At: 2, State: wide(but{1: only(16)})},
			{At: 3, State: wide(but{0: {Lo: api.Least, Hi: 15}, 1: only(16)})},
		}},
		{sums, wide(nil), []api.Claim{
			{At: 3, State: wide(but{1: upFrom(0), 2: only(10), 3: only(1)})},
			{At: 5, State: wide(but{1: {Lo: 0, Hi: 9}, 2: only(10), 3: only(1)})},
		}},
		{[]api.Ins{{Op: api.Div, A: 0, B: 1, C: 2}, {}}, wide(but{2: {Lo: 1, Hi: 9}}), nil},
		{[]api.Ins{{}}, wide(nil), nil},
	})
}

// counting: register 1 goes up by 1 as long as it is below n; more is done ahead of each step.
func counting(n int, more ...api.Ins) []api.Ins {
	p := []api.Ins{{Op: api.Set, A: 2, K: n}, {Op: api.Set, A: 3, K: 1}, {Op: api.Less, A: 1, B: 2, K: 4}, {}}
	p = append(p, more...)
	return append(p, api.Ins{Op: api.Add, A: 1, B: 1, C: 3}, api.Ins{Op: api.Jump, K: 2})
}

// counted: what is claimed of counting, these being the ranges of register 1.
func counted(n int, head, body api.Range) []api.Claim {
	return []api.Claim{
		{At: 2, State: state(but{1: head, 2: only(n), 3: only(1)})},
		{At: 4, State: state(but{1: body, 2: only(n), 3: only(1)})},
	}
}

// P6: three passes may change a mark that a jump goes back to as little as they need; the fourth takes the bound to its end. A mark that none goes back to is changed as little as need be by any number of passes.
func TestProveOfCounting(t *testing.T) {
	wantProven(t, []proven{
		{counting(0), state(nil), counted(0, only(0), only(0))[:1]},
		{counting(1), state(nil), counted(1, api.Range{Lo: 0, Hi: 1}, only(0))},
		{counting(2), state(nil), counted(2, api.Range{Lo: 0, Hi: 2}, api.Range{Lo: 0, Hi: 1})},
		{counting(3), state(nil), counted(3, api.Range{Lo: 0, Hi: 3}, api.Range{Lo: 0, Hi: 2})},
		{counting(4), state(nil), counted(4, upFrom(0), api.Range{Lo: 0, Hi: 3})},
		{counting(5), state(nil), counted(5, upFrom(0), api.Range{Lo: 0, Hi: 4})},
		{counting(64), state(nil), counted(64, upFrom(0), api.Range{Lo: 0, Hi: 63})},
		{counting(api.Most), state(nil), counted(api.Most, upFrom(0), api.Range{Lo: 0, Hi: api.Most - 1})},
	})
}

func TestProveOfCountingDown(t *testing.T) {
	p := func(n int) []api.Ins {
		return []api.Ins{{Op: api.Set, A: 2, K: -n}, {Op: api.Set, A: 3, K: 1}, {Op: api.Less, A: 2, B: 1, K: 4}, {}, {Op: api.Sub, A: 1, B: 1, C: 3}, {Op: api.Jump, K: 2}}
	}
	wantProven(t, []proven{
		{p(3), state(nil), counted(-3, api.Range{Lo: -3, Hi: 0}, api.Range{Lo: -2, Hi: 0})},
		{p(4), state(nil), counted(-4, api.Range{Lo: api.Least, Hi: 0}, api.Range{Lo: -3, Hi: 0})},
	})
}

// P6: only the bounds that change from the fourth pass on become LEAST or MOST: here those of register 4, while register 1 has come to rest.
func TestProveStretchesWhatChanges(t *testing.T) {
	back := counting(3, api.Ins{Op: api.Sub, A: 4, B: 4, C: 3})
	late := []api.Ins{
		{Op: api.Set, A: 2, K: 6}, {Op: api.Set, A: 3, K: 1}, {Op: api.Less, A: 1, B: 4, K: 4}, {},
		{Op: api.Less, A: 1, B: 2, K: 6}, {Op: api.Set, A: 5, K: 7}, {Op: api.Add, A: 1, B: 1, C: 3}, {Op: api.Jump, K: 2},
	}
	wantProven(t, []proven{
		{back, state(nil), []api.Claim{
			{At: 2, State: state(but{1: {Lo: 0, Hi: 3}, 2: only(3), 3: only(1), 4: allNumbers})},
			{At: 4, State: state(but{1: {Lo: 0, Hi: 2}, 2: only(3), 3: only(1), 4: allNumbers})},
		}},
		// Register 5 changes first in the fifth pass that changes 2, so it goes to MOST without a try of its own.
		{late, state(but{4: only(100)}), []api.Claim{
			{At: 2, State: state(but{1: upFrom(0), 2: only(6), 3: only(1), 4: only(100), 5: upFrom(0)})},
			{At: 4, State: state(but{1: {Lo: 0, Hi: 99}, 2: only(6), 3: only(1), 4: only(100), 5: upFrom(0)})},
			{At: 6, State: state(but{1: {Lo: 0, Hi: 99}, 2: only(6), 3: only(1), 4: only(100), 5: upFrom(0)})},
		}},
	})
}

// P6: each mark has passes of its own: the second loop is come to when the first one was changed by four already.
func TestProveCountsPassesOfEachMark(t *testing.T) {
	p := []api.Ins{
		{Op: api.Set, A: 2, K: 9}, {Op: api.Set, A: 3, K: 1},
		{Op: api.Less, A: 1, B: 2, K: 5}, {Op: api.Set, A: 2, K: 3}, {Op: api.Jump, K: 7}, {Op: api.Add, A: 1, B: 1, C: 3}, {Op: api.Jump, K: 2},
		{Op: api.Less, A: 4, B: 2, K: 9}, {}, {Op: api.Add, A: 4, B: 4, C: 3}, {Op: api.Jump, K: 7},
	}
	wantProven(t, []proven{{p, state(nil), []api.Claim{
		{At: 2, State: state(but{1: upFrom(0), 2: only(9), 3: only(1)})},
		{At: 5, State: state(but{1: {Lo: 0, Hi: 8}, 2: only(9), 3: only(1)})},
		{At: 7, State: state(but{1: upFrom(9), 2: only(3), 3: only(1), 4: {Lo: 0, Hi: 3}})},
		{At: 9, State: state(but{1: upFrom(9), 2: only(3), 3: only(1), 4: {Lo: 0, Hi: 2}})},
	}}})
}

// P6: a pass that changes a mark several times is one pass: both jumps back change it in each.
func TestProveCountsPassesNotChanges(t *testing.T) {
	twice := func(n int) []api.Ins {
		return counting(n, api.Ins{Op: api.Add, A: 1, B: 1, C: 3}, api.Ins{Op: api.Less, A: 6, B: 7, K: 2})
	}
	claims := func(n int, head, body api.Range) []api.Claim {
		c := counted(n, head, body)
		for k := range c {
			c[k].State[6], c[k].State[7] = allNumbers, allNumbers
		}
		return c
	}
	entry := state(but{6: allNumbers, 7: allNumbers})
	wantProven(t, []proven{
		{twice(5), entry, claims(5, api.Range{Lo: 0, Hi: 6}, api.Range{Lo: 0, Hi: 4})},
		{twice(6), entry, claims(6, upFrom(0), api.Range{Lo: 0, Hi: 5})},
		{twice(8), entry, claims(8, upFrom(0), api.Range{Lo: 0, Hi: 7})},
	})
}

// P6: a jump that stands at the mark goes back to it, one that nothing comes to does too; one ahead of it does not.
func TestProveOfJumpsThatGoBack(t *testing.T) {
	lost := []api.Claim{
		{At: 2, State: state(but{1: allNumbers, 2: only(9), 3: only(1)})},
		{At: 4, State: state(but{1: allNumbers, 2: only(9), 3: only(1)})},
	}
	kept := counted(9, upFrom(0), api.Range{Lo: 0, Hi: 8})
	dead := append(counting(9), api.Ins{Op: api.Jump, K: 4})
	wantProven(t, []proven{
		{counting(9, api.Ins{Op: api.Set, A: 5}), state(nil), kept},
		{counting(9, api.Ins{Op: api.Less, A: 7, B: 7, K: 4}), state(nil), lost},
		{counting(9, api.Ins{Op: api.Less, A: 2, B: 3, K: 4}), state(nil), lost},
		{counting(9, api.Ins{Op: api.Same, A: 2, B: 3, K: 4}), state(nil), lost},
		{counting(9, api.Ins{Op: api.Set, A: 5}, api.Ins{Op: api.Same, A: 2, B: 3, K: 4}), state(nil), lost},
		{dead, state(nil), lost},
		{append(counting(9), api.Ins{Op: api.Jump, K: 6}), state(nil), kept},
	})
}

// P6: the state entry comes to instruction 0, and so do the jumps that go back there.
func TestProveOfAMarkAtTheBeginning(t *testing.T) {
	p := []api.Ins{{Op: api.Add, A: 1, B: 1, C: 3}, {Op: api.Less, A: 1, B: 2, K: 0}, {}}
	entry := func(n int, r api.Range) api.State { return state(but{1: r, 2: only(n), 3: only(1)}) }
	wantProven(t, []proven{
		{p, entry(1, only(0)), []api.Claim{{At: 0, State: entry(1, only(0))}}},
		{p, entry(4, only(0)), []api.Claim{{At: 0, State: entry(4, api.Range{Lo: 0, Hi: 3})}}},
		{p, entry(5, only(0)), []api.Claim{{At: 0, State: entry(5, allNumbers)}}},
		{[]api.Ins{{Op: api.Jump}}, entry(5, only(0)), []api.Claim{{At: 0, State: entry(5, only(0))}}},
	})
}

// P6: a mark's state is the join of all that comes there, whether it is gone to or come to from the instruction before.
func TestProveJoins(t *testing.T) {
	p := []api.Ins{
		{Op: api.Less, A: 0, B: 1, K: 3}, {Op: api.Set, A: 2, K: 4}, {Op: api.Jump, K: 4}, {Op: api.Set, A: 2, K: 7},
		{Op: api.Same, A: 0, B: 1, K: 6}, {Op: api.Set, A: 2, K: -3}, {}, {Op: api.Jump, K: 7}, {Op: api.Less, A: 4, B: 4, K: 7},
	}
	wantProven(t, []proven{{p, wide(but{0: {Lo: 0, Hi: 9}, 1: {Lo: 5, Hi: 12}}), []api.Claim{
		{At: 3, State: wide(but{0: {Lo: 0, Hi: 9}, 1: {Lo: 5, Hi: 12}})},
		{At: 4, State: wide(but{0: {Lo: 0, Hi: 9}, 1: {Lo: 5, Hi: 12}, 2: {Lo: 4, Hi: 7}})},
		{At: 6, State: wide(but{0: {Lo: 0, Hi: 9}, 1: {Lo: 5, Hi: 12}, 2: {Lo: -3, Hi: 7}})},
	}}})
}

func upFrom(n int) api.Range { return api.Range{Lo: n, Hi: api.Most} }

type unproven struct {
	p     []api.Ins
	entry api.State
	want  api.Errno
	at    int
}

func wantUnproven(t *testing.T, cases []unproven) {
	t.Helper()
	for n, c := range cases {
		if got, e, at := Prove(c.p, c.entry); len(got) != 0 || e != c.want || at != c.at {
			t.Errorf("P6: case %d: Prove(%v, %v) = %v, %d, %d, want %d, %d", n, c.p, c.entry, got, e, at, c.want, c.at)
		}
	}
}

func TestProveErrors(t *testing.T) {
	empty := wide(but{7: {Lo: 1, Hi: 0}})
	// Each of these has what the next one fails for too.
	p := []api.Ins{{Op: api.Div, A: 0, B: 1, C: 2}, {Op: api.Load, A: 3, B: 4}, {Op: api.Less, A: 0, B: 2, K: 1}, {Op: api.Set}}
	bad := slices.Clone(p)
	bad[2].K = 4
	safe := wide(but{2: {Lo: 1, Hi: 2}, 4: {Lo: 0, Hi: 15}})
	wantUnproven(t, []unproven{
		{nil, empty, api.ErrProgram, 0},
		{make([]api.Ins, 65), empty, api.ErrProgram, 0},
		{bad, empty, api.ErrProgram, 2},
		{p, empty, api.ErrArg, 0},
		{p, wide(nil), api.ErrZero, 0},
		{p, wide(but{2: {Lo: 1, Hi: 2}}), api.ErrBounds, 1},
		{p, wide(but{2: {Lo: 1, Hi: 2}, 4: {Lo: 0, Hi: 16}}), api.ErrBounds, 1},
		{p, safe, api.ErrEnd, 4},
	})
	wantProven(t, []proven{{append(slices.Clone(p), api.Ins{}), safe, []api.Claim{{At: 1, State: safe}}}})
	for n := range api.Regs {
		wantUnproven(t, []unproven{{[]api.Ins{{}}, wide(but{n: {Lo: api.Most, Hi: api.Least}}), api.ErrArg, 0}})
	}
}

// P6: the passes look at no error: what is told is what Check finds first of the claims, not what the passes come by first.
func TestProveTellsWhatCheckSays(t *testing.T) {
	// The first pass comes by the Div at 6; only the fifth one comes to the Div at 3, and to the Load with a register 1 that may be 16.
	loop := []api.Ins{
		{Op: api.Set, A: 2, K: 17}, {Op: api.Set, A: 3, K: 1}, {Op: api.Less, A: 1, B: 2, K: 5}, {Op: api.Div, A: 5, B: 1, C: 6}, {},
		{Op: api.Load, A: 4, B: 1}, {Op: api.Div, A: 5, B: 1, C: 6}, {Op: api.Add, A: 1, B: 1, C: 3}, {Op: api.Jump, K: 2},
	}
	around := slices.Clone(loop)
	around[3] = api.Ins{}
	fits := slices.Clone(around)
	fits[0].K = 16
	head := func(n int) []api.Ins {
		p := counting(n)
		p[3] = p[2]
		p[2], p[3].K = api.Ins{Op: api.Store, A: 1, B: 3}, 5
		return slices.Insert(p, 4, api.Ins{})
	}
	over := append(counting(9), api.Ins{Op: api.Set})
	over[3] = api.Ins{Op: api.Jump, K: 6}
	wantUnproven(t, []unproven{
		{loop, state(nil), api.ErrZero, 3},
		{around, state(nil), api.ErrBounds, 5},
		{fits, state(nil), api.ErrZero, 6},
		{head(9), state(nil), api.ErrBounds, 2},
		{over, state(nil), api.ErrEnd, 7},
	})
	wantProven(t, []proven{{head(3), state(nil), []api.Claim{
		{At: 2, State: state(but{1: {Lo: 0, Hi: 3}, 2: only(3), 3: only(1)})},
		{At: 5, State: state(but{1: {Lo: 0, Hi: 2}, 2: only(3), 3: only(1)})},
	}}})
}

// P6: a chain of loops, each of which begins to turn only when the one before it has come to rest, ends too.
func TestProveOfManyLoops(t *testing.T) {
	var p []api.Ins
	for n := range 15 {
		at := 4 * n
		p = append(p, api.Ins{Op: api.Add, A: n % 6, B: n % 6, C: 7}, api.Ins{Op: api.Less, A: n % 6, B: 6, K: at}, api.Ins{Op: api.Less, A: 6, B: n % 6, K: at + 4}, api.Ins{})
	}
	p = append(p, api.Ins{})
	entry := state(but{6: only(1 << 40), 7: only(1)})
	want, wantErr, wantAt := wantProve(p, entry)
	if c, e, at := Prove(p, entry); !slices.Equal(c, want) || e != wantErr || at != wantAt || e != api.OK || len(c) != 16 {
		t.Errorf("P6: Prove of many loops = %v, %d, %d, want %v, %d, %d", c, e, at, want, wantErr, wantAt)
	}
}
