package surety

import (
	"math/rand"
	"slices"
	"sync"
	"testing"

	"surety/api"
)

// taken: programs that are taken, each with its entry and its claims.
func taken(r *rand.Rand, count int) []checked {
	var l []checked
	for len(l) < count {
		p, entry := tameProgram(r), tameEntry(r)
		if c, e, _ := wantProve(p, entry); e == api.OK {
			l = append(l, checked{p: p, entry: entry, c: c})
		}
	}
	return l
}

func mustCompile(t *testing.T, c checked) *Thread {
	t.Helper()
	thread, e, at := Compile(c.p, c.entry, c.c)
	if thread == nil || e != api.OK || at != 0 {
		t.Fatalf("P7: Compile(%v, %v, %v) = %v, %d, %d", c.p, c.entry, c.c, thread, e, at)
	}
	return thread
}

// wantRuns holds a run of a thread against a run of its program.
func wantRuns(t *testing.T, thread *Thread, p []api.Ins, regs [api.Regs]int, fuel int) {
	t.Helper()
	want, _ := walk(p, regs, fuel)
	if o, e := thread.Run(regs, fuel); o != want || e != api.OK {
		t.Fatalf("P7: a thread of %v with %v, %d runs to %+v, %d, want %+v", p, regs, fuel, o, e, want)
	}
}

// fills stores 1 in the words 0 to 4, and ends with what word 0 is then.
var fills = []api.Ins{
	{Op: api.Set, A: 2, K: 5}, {Op: api.Set, A: 3, K: 1}, {Op: api.Less, A: 1, B: 2, K: 5},
	{Op: api.Load, A: 0, B: 7}, {},
	{Op: api.Store, A: 1, B: 3}, {Op: api.Add, A: 1, B: 1, C: 3}, {Op: api.Jump, K: 2},
}

func TestThreadRuns(t *testing.T) {
	entry := state(but{1: {Lo: 0, Hi: 3}})
	c, e, at := Prove(fills, entry)
	if e != api.OK {
		t.Fatalf("P6: Prove of fills: %d, %d", e, at)
	}
	thread := mustCompile(t, checked{p: fills, entry: entry, c: c})
	for _, c := range []struct {
		first, fuel int
		want        api.Outcome
	}{
		{0, 100, api.Outcome{Kind: api.Done, At: 4, Value: 1, Steps: 25}},
		{3, 100, api.Outcome{Kind: api.Done, At: 4, Value: 0, Steps: 13}},
		{0, 100, api.Outcome{Kind: api.Done, At: 4, Value: 1, Steps: 25}},
		{0, 25, api.Outcome{Kind: api.Done, At: 4, Value: 1, Steps: 25}},
		{0, 24, api.Outcome{Kind: api.Fuel, At: 4, Steps: 24}},
		{3, 5, api.Outcome{Kind: api.Fuel, At: 7, Steps: 5}},
		{1, 1, api.Outcome{Kind: api.Fuel, At: 1, Steps: 1}},
		{1, 0, api.Outcome{Kind: api.Fuel}},
		{1, -1, api.Outcome{Kind: api.Fuel}},
		{1, api.Least, api.Outcome{Kind: api.Fuel}},
		{3, api.Most, api.Outcome{Kind: api.Done, At: 4, Value: 0, Steps: 13}},
	} {
		if o, e := thread.Run([api.Regs]int{0, c.first}, c.fuel); o != c.want || e != api.OK {
			t.Errorf("P7: from %d with fuel %d the thread runs to %+v, %d, want %+v", c.first, c.fuel, o, e, c.want)
		}
	}
}

func TestThreadFuelIsBounded(t *testing.T) {
	p := []api.Ins{{Op: api.Jump}}
	thread := mustCompile(t, checked{p: p, entry: wide(nil), c: []api.Claim{{At: 0, State: wide(nil)}}})
	for _, fuel := range []int{9999, 10000, 10001, api.Most} {
		wantRuns(t, thread, p, [api.Regs]int{}, fuel)
	}
}

// P7: each register must be in its range of entry, both ends of which are.
func TestThreadRunsWithinItsEntry(t *testing.T) {
	p := []api.Ins{{}}
	for n := range api.Regs {
		for _, r := range []api.Range{{Lo: 3, Hi: 5}, only(4), {Lo: -2, Hi: 9}, {Lo: api.Least, Hi: 4}, {Lo: 4, Hi: api.Most}, allNumbers} {
			thread := mustCompile(t, checked{p: p, entry: wide(but{n: r})})
			for _, v := range append([]int{3, 4, 5, 6, -3, 9, 10}, edges...) {
				var regs [api.Regs]int
				regs[n] = v
				if holds(r, v) {
					wantRuns(t, thread, p, regs, 5)
				} else if o, e := thread.Run(regs, 5); o != (api.Outcome{}) || e != api.ErrArg {
					t.Errorf("P7: with %v, entry %v of register %d, a thread answers %+v, %d, want ErrArg", regs, r, n, o, e)
				}
			}
		}
	}
}

// P7: a register that is out of its range is told even if there is no fuel, or if the program never asks for it.
func TestThreadTellsWrongRegistersFirst(t *testing.T) {
	thread := mustCompile(t, checked{p: []api.Ins{{Op: api.Set, A: 7}, {}}, entry: state(nil)})
	for _, fuel := range []int{api.Least, 0, 1, 9} {
		if o, e := thread.Run([api.Regs]int{7: 1}, fuel); o != (api.Outcome{}) || e != api.ErrArg {
			t.Errorf("P7: out of entry with fuel %d: %+v, %d, want ErrArg", fuel, o, e)
		}
		wantRuns(t, thread, []api.Ins{{Op: api.Set, A: 7}, {}}, [api.Regs]int{}, fuel)
	}
}

func TestCompileErrors(t *testing.T) {
	empty := wide(but{7: {Lo: 1, Hi: 0}})
	p := []api.Ins{{Op: api.Set, A: 3}, {Op: api.Div, A: 0, B: 1, C: 2}, {Op: api.Load, A: 3, B: 4}, {Op: api.Less, A: 0, B: 2, K: 1}, {Op: api.Set}}
	small, safe := but{2: {Lo: 1, Hi: 2}}, but{2: {Lo: 1, Hi: 2}, 4: {Lo: 0, Hi: 15}}
	claim := func(b but) []api.Claim { return []api.Claim{{At: 1, State: wide(b)}} }
	wrong := append(claim(small), api.Claim{At: 0, State: empty})
	for n, c := range []checked{
		{nil, empty, wrong, api.ErrProgram, 0},
		{append(slices.Clone(p), api.Ins{Op: 12}), empty, wrong, api.ErrProgram, 5},
		{p, empty, wrong, api.ErrArg, 0},
		{p, wide(nil), wrong, api.ErrCert, 1},
		{p, wide(nil), nil, api.ErrState, 1},
		{p, wide(nil), claim(small), api.ErrState, 1},
		{p, wide(nil), claim(nil), api.ErrZero, 1},
		{p, wide(small), claim(small), api.ErrBounds, 2},
		{p, wide(safe), claim(but{2: {Lo: 1, Hi: 2}, 3: only(0), 4: {Lo: 0, Hi: 15}}), api.ErrState, 3},
		{p, wide(safe), claim(safe), api.ErrEnd, 5},
	} {
		if thread, e, at := Compile(c.p, c.entry, c.c); thread != nil || e != c.want || at != c.at {
			t.Errorf("P7: case %d: Compile(%v, %v, %v) = %v, %d, %d, want %d, %d", n, c.p, c.entry, c.c, thread, e, at, c.want, c.at)
		}
	}
	mustCompile(t, checked{p: append(slices.Clone(p), api.Ins{}), entry: wide(safe), c: claim(safe)})
}

// P7: the error and the place are Check's, and only beside OK there is a thread, which runs as the program does.
func TestCompileOfMany(t *testing.T) {
	r := rand.New(rand.NewSource(30))
	answers, errors := [9]int{}, 0
	for range 30000 {
		p, entry := tameProgram(r), tameEntry(r)
		c := spoiled(r, settled(p, entry), len(p))
		if r.Intn(20) == 0 {
			*bound(&entry, r) = someNumber(r)
		}
		want, wantAt := wantCheck(p, entry, c)
		answers[want]++
		thread, e, at := Compile(p, entry, c)
		if e != want || at != wantAt || (thread != nil) != (want == api.OK) {
			t.Fatalf("P7: Compile(%v, %v, %v) = %v, %d, %d, want %d, %d", p, entry, c, thread, e, at, want, wantAt)
		}
		if thread == nil {
			continue
		}
		wantRuns(t, thread, p, regsWithin(r, entry), someFuel(r))
		regs := someRegs(r)
		if o, e := thread.Run(regs, 9); !regsIn(regs, entry) {
			errors++
			if o != (api.Outcome{}) || e != api.ErrArg {
				t.Fatalf("P7: out of %v with %v: %+v, %d, want ErrArg", entry, regs, o, e)
			}
		}
	}
	for _, e := range []api.Errno{api.OK, api.ErrArg, api.ErrCert, api.ErrState, api.ErrZero, api.ErrBounds, api.ErrEnd} {
		if answers[e] < 100 {
			t.Errorf("P7: only %d answers %d were tried", answers[e], e)
		}
	}
	if errors < 1000 {
		t.Errorf("P7: only %d runs out of the entry were tried", errors)
	}
}

func regsIn(regs [api.Regs]int, s api.State) bool {
	for n := range regs {
		if !holds(s[n], regs[n]) {
			return false
		}
	}
	return true
}

// P2 and P7: threads that were made of the same lists, written over since, run by turns, each as its own program does.
func TestThreadsByTurns(t *testing.T) {
	r := rand.New(rand.NewSource(31))
	programs := taken(r, 200)
	room, claims := make([]api.Ins, 64), make([]api.Claim, 64)
	var threads []*Thread
	for _, c := range programs {
		lent := checked{p: room[:copy(room, c.p)], entry: c.entry, c: claims[:copy(claims, c.c)]}
		threads = append(threads, mustCompile(t, lent))
		spoilProgram(lent.p)
		spoilClaims(lent.c)
	}
	for range 20000 {
		n := r.Intn(len(threads))
		wantRuns(t, threads[n], programs[n].p, regsWithin(r, programs[n].entry), someFuel(r))
		threads[n].Run(someRegs(r), someFuel(r))
	}
}

func spoilClaims(c []api.Claim) {
	all := c[:cap(c)]
	for n := range all {
		all[n] = api.Claim{At: -1, State: wide(but{3: {Lo: 1, Hi: 0}})}
	}
}

// P2: a run does not change the thread, so runs at the same time do not meet each other either.
func TestThreadRunsAtOnce(t *testing.T) {
	c, _, _ := Prove(fills, state(but{1: {Lo: 0, Hi: 3}}))
	thread := mustCompile(t, checked{p: fills, entry: state(but{1: {Lo: 0, Hi: 3}}), c: c})
	var outcomes [64]api.Outcome
	var group sync.WaitGroup
	for n := range outcomes {
		group.Go(func() { outcomes[n], _ = thread.Run([api.Regs]int{1: n % 4}, 100) })
	}
	group.Wait()
	for n, o := range outcomes {
		if want, _ := walk(fills, [api.Regs]int{1: n % 4}, 100); o != want {
			t.Errorf("P2: run %d at the same time as others: %+v, want %+v", n, o, want)
		}
	}
}

// P7: two threads of one program with other entries are two.
func TestThreadsKeepTheirOwnEntry(t *testing.T) {
	p := []api.Ins{{}}
	low := mustCompile(t, checked{p: p, entry: wide(but{0: {Lo: 0, Hi: 4}})})
	high := mustCompile(t, checked{p: p, entry: wide(but{0: {Lo: 5, Hi: 9}})})
	for n := range 10 {
		_, ofLow := low.Run([api.Regs]int{n}, 1)
		_, ofHigh := high.Run([api.Regs]int{n}, 1)
		if (ofLow == api.OK) != (n < 5) || (ofHigh == api.OK) != (n > 4) {
			t.Errorf("P7: %d begins in 0 to 4: %d, in 5 to 9: %d", n, ofLow, ofHigh)
		}
	}
}
