package surety

import (
	"math/rand"
	"slices"
	"testing"

	"surety/api"
)

// wantCheck: P5's words, apart from the program's own.
func wantCheck(p []api.Ins, entry api.State, c []api.Claim) (api.Errno, int) {
	if e, at := wantRight(p); e != api.OK {
		return e, at
	}
	if hasEmpty(entry) {
		return api.ErrArg, 0
	}
	marks, claims := marksIn(p), map[int]*api.State{}
	for n := range c {
		if !marks[c[n].At] || n > 0 && c[n].At <= c[n-1].At || hasEmpty(c[n].State) {
			return api.ErrCert, n
		}
		claims[c[n].At] = &c[n].State
	}
	liesAt := func(s *api.State, mark int) bool {
		return s == nil || claims[mark] != nil && within(*s, *claims[mark])
	}
	s := &entry
	for at, i := range p {
		if marks[at] {
			if !liesAt(s, at) {
				return api.ErrState, at
			}
			s = claims[at]
		}
		if s == nil {
			continue
		}
		if i.Op == api.Div && holds(s[i.C], 0) {
			return api.ErrZero, at
		}
		word := map[int]int{api.Load: i.B, api.Store: i.A}
		if n, is := word[i.Op]; is && (s[n].Lo < 0 || s[n].Hi > 15) {
			return api.ErrBounds, at
		}
		on, far := becomes(i, *s)
		if !liesAt(far, i.K) {
			return api.ErrState, at
		}
		s = on
	}
	if s != nil {
		return api.ErrEnd, len(p)
	}
	return api.OK, 0
}

// tameProgram: one that often does nothing wrong: it halts here and there, and its numbers are small.
func tameProgram(r *rand.Rand) []api.Ins {
	p := rightProgram(r)
	for at := range p {
		if i := &p[at]; i.Op == api.Set && r.Intn(4) > 0 {
			i.K = r.Intn(20) - 1
		} else if (i.Op == api.Div || i.Op == api.Load || i.Op == api.Store) && r.Intn(2) == 0 {
			*i = api.Ins{Op: api.Less + r.Intn(2), A: r.Intn(8), B: r.Intn(8), K: r.Intn(len(p))}
		}
	}
	if r.Intn(8) > 0 {
		p[len(p)-1] = api.Ins{}
	}
	return p
}

func tameEntry(r *rand.Rand) api.State {
	s := someState(r)
	for n := range s {
		if r.Intn(3) > 0 {
			s[n] = api.Range{Lo: r.Intn(8), Hi: 8 + r.Intn(8)}
		}
	}
	return s
}

// bound: one of the sixteen ends of a state.
func bound(s *api.State, r *rand.Rand) *int {
	n := r.Intn(len(s))
	if r.Intn(2) == 0 {
		return &s[n].Lo
	}
	return &s[n].Hi
}

// spoiled: claims of which mostly something is changed.
func spoiled(r *rand.Rand, c []api.Claim, count int) []api.Claim {
	c = slices.Clone(c)
	if len(c) == 0 {
		if r.Intn(4) == 0 {
			c = append(c, api.Claim{At: r.Intn(count+2) - 1, State: wide(nil)})
		}
		return c
	}
	n, m := r.Intn(len(c)), r.Intn(len(c))
	switch r.Intn(10) {
	case 0:
		return slices.Delete(c, n, n+1)
	case 1:
		*bound(&c[n].State, r) = someNumber(r)
	case 2:
		*bound(&c[n].State, r) += 1 - 2*r.Intn(2)
	case 3:
		c[n], c[m] = c[m], c[n]
	case 4:
		c[n].At = r.Intn(count+2) - 1
	case 5:
		return slices.Insert(c, n, c[m])
	case 6:
		c[n].State = wide(nil)
	}
	return c
}

func TestCheckOfMany(t *testing.T) {
	r := rand.New(rand.NewSource(12))
	answers := [9]int{}
	loops := 0
	for range 60000 {
		p, entry := tameProgram(r), tameEntry(r)
		c := spoiled(r, settled(p, entry), len(p))
		if r.Intn(20) == 0 {
			*bound(&entry, r) = someNumber(r)
		}
		want, wantAt := wantCheck(p, entry, c)
		answers[want]++
		if want == api.OK && len(c) > 1 {
			loops++
		}
		if e, at := Check(p, entry, c); e != want || at != wantAt {
			t.Fatalf("P5: Check(%v, %v, %v) = %d, %d, want %d, %d", p, entry, c, e, at, want, wantAt)
		}
	}
	for _, e := range []api.Errno{api.OK, api.ErrArg, api.ErrCert, api.ErrState, api.ErrZero, api.ErrBounds, api.ErrEnd} {
		if answers[e] < 200 {
			t.Errorf("P5: only %d answers %d were tried", answers[e], e)
		}
	}
	if loops < 1000 {
		t.Errorf("P5: only %d programs with several claims were taken", loops)
	}
}

type checked struct {
	p     []api.Ins
	entry api.State
	c     []api.Claim
	want  api.Errno
	at    int
}

func wantChecked(t *testing.T, cases []checked) {
	t.Helper()
	for n, c := range cases {
		if e, at := Check(c.p, c.entry, c.c); e != c.want || at != c.at {
			t.Errorf("P5: case %d: Check(%v, %v, %v) = %d, %d, want %d, %d", n, c.p, c.entry, c.c, e, at, c.want, c.at)
		}
	}
}

func TestCheckExamples(t *testing.T) {
	divide := []api.Ins{{Op: api.Div, A: 0, B: 1, C: 2}, {}}
	fill := []api.Ins{{Op: api.Set, A: 2, K: 5}, {Op: api.Set, A: 3, K: 1}, {Op: api.Less, A: 1, B: 2, K: 4}, {}, {Op: api.Store, A: 1, B: 3}, {Op: api.Add, A: 1, B: 1, C: 3}, {Op: api.Jump, K: 2}}
	head, body := api.State{}, api.State{}
	head[2], head[3], body[2], body[3] = api.Range{Lo: 5, Hi: 5}, api.Range{Lo: 1, Hi: 1}, api.Range{Lo: 5, Hi: 5}, api.Range{Lo: 1, Hi: 1}
	head[1], body[1] = api.Range{Lo: 0, Hi: api.Most}, api.Range{Lo: 0, Hi: 4}
	tight := head
	tight[1] = api.Range{Lo: 0, Hi: 4}
	guard := []api.Ins{{Op: api.Set, A: 1, K: 16}, {Op: api.Less, A: 0, B: 1, K: 3}, {}, {Op: api.Set, A: 2, K: 0}, {Op: api.Less, A: 0, B: 2, K: 2}, {Op: api.Load, A: 3, B: 0}, {}}
	low := wide(but{0: {Lo: api.Least, Hi: 15}})
	wantChecked(t, []checked{
		{divide, wide(nil), nil, api.ErrZero, 0},
		{divide, wide(but{2: {Lo: 1, Hi: 9}}), nil, api.OK, 0},
		{divide, wide(but{2: {Lo: -9, Hi: -1}}), nil, api.OK, 0},
		{divide[:1], wide(but{2: {Lo: 1, Hi: 9}}), nil, api.ErrEnd, 1},
		{fill, api.State{}, []api.Claim{{At: 2, State: head}, {At: 4, State: body}}, api.OK, 0},
		{fill, api.State{}, []api.Claim{{At: 2, State: tight}, {At: 4, State: body}}, api.ErrState, 6},
		{guard, wide(nil), []api.Claim{{At: 2, State: wide(nil)}, {At: 3, State: low}}, api.OK, 0},
		{guard, wide(nil), []api.Claim{{At: 2, State: wide(nil)}, {At: 3, State: wide(nil)}}, api.ErrBounds, 5},
		{guard, wide(nil), []api.Claim{{At: 3, State: low}}, api.ErrState, 2},
		{guard, wide(nil), []api.Claim{{At: 2, State: wide(nil)}}, api.ErrState, 1},
	})
}

// P5: where several errors apply, the first that it names is told; each case has all that those below it have, but for its own.
func TestCheckTellsTheFirstError(t *testing.T) {
	empty := wide(but{7: {Lo: 1, Hi: 0}})
	small := wide(but{2: {Lo: 1, Hi: 2}})
	wrong := []api.Claim{{At: 1, State: small}, {At: 0, State: empty}}
	narrow := []api.Claim{{At: 1, State: small}}
	wider := []api.Claim{{At: 1, State: wide(nil)}}
	p := []api.Ins{{Op: api.Set, A: 3}, {Op: api.Div, A: 0, B: 1, C: 2}, {Op: api.Load, A: 3, B: 4}, {Op: api.Less, A: 0, B: 2, K: 1}, {Op: api.Set}}
	bad := slices.Clone(p)
	bad[3].C = 1
	wantChecked(t, []checked{
		{nil, empty, wrong, api.ErrProgram, 0},
		{make([]api.Ins, 65), empty, wrong, api.ErrProgram, 0},
		{bad, empty, wrong, api.ErrProgram, 3},
		{p, empty, wrong, api.ErrArg, 0},
		{p, wide(nil), wrong, api.ErrCert, 1},
		{p, wide(nil), narrow, api.ErrState, 1},
		{p, wide(nil), nil, api.ErrState, 1},
		{p, wide(nil), wider, api.ErrZero, 1},
		{p, small, narrow, api.ErrBounds, 2},
		{p, wide(but{2: {Lo: 1, Hi: 2}, 4: {Lo: 0, Hi: 15}}), []api.Claim{{At: 1, State: wide(but{2: {Lo: 1, Hi: 2}, 4: {Lo: 0, Hi: 15}, 3: {Lo: 0, Hi: 0}})}}, api.ErrState, 3},
		{p, wide(but{2: {Lo: 1, Hi: 2}, 4: {Lo: 0, Hi: 15}}), []api.Claim{{At: 1, State: wide(but{2: {Lo: 1, Hi: 2}, 4: {Lo: 0, Hi: 15}})}}, api.ErrEnd, 5},
		{append(slices.Clone(p), api.Ins{}), wide(but{2: {Lo: 1, Hi: 2}, 4: {Lo: 0, Hi: 15}}), []api.Claim{{At: 1, State: wide(but{2: {Lo: 1, Hi: 2}, 4: {Lo: 0, Hi: 15}})}}, api.OK, 0},
	})
}

func TestCheckOfEmptyRanges(t *testing.T) {
	p := []api.Ins{{Op: api.Jump, K: 1}, {}}
	for n := range api.Regs {
		for _, r := range []api.Range{{Lo: 1, Hi: 0}, {Lo: api.Most, Hi: api.Least}, {Lo: 16, Hi: 3}, {Lo: api.Least + 1, Hi: api.Least}} {
			empty := wide(but{n: r})
			wantChecked(t, []checked{
				{p, empty, []api.Claim{{At: 1, State: wide(nil)}}, api.ErrArg, 0},
				{p, wide(nil), []api.Claim{{At: 1, State: empty}}, api.ErrCert, 0},
			})
		}
		one := wide(but{n: {Lo: 3, Hi: 3}})
		wantChecked(t, []checked{{p, one, []api.Claim{{At: 1, State: one}}, api.OK, 0}})
	}
}

func TestCheckOfClaims(t *testing.T) {
	p := []api.Ins{{Op: api.Jump, K: 2}, {Op: api.Less, A: 1, B: 1, K: 4}, {Op: api.Same, A: 0, B: 1, K: 4}, {}, {}}
	claims := func(at ...int) []api.Claim {
		var c []api.Claim
		for _, n := range at {
			c = append(c, api.Claim{At: n, State: wide(nil)})
		}
		return c
	}
	wantChecked(t, []checked{
		{p, wide(nil), claims(2, 4), api.OK, 0},
		{p, wide(nil), claims(4, 2), api.ErrCert, 1},
		{p, wide(nil), claims(2, 2, 4), api.ErrCert, 1},
		{p, wide(nil), claims(2, 4, 4), api.ErrCert, 2},
		{p, wide(nil), claims(0, 2, 4), api.ErrCert, 0},
		{p, wide(nil), claims(2, 3, 4), api.ErrCert, 1},
		{p, wide(nil), claims(2, 4, 5), api.ErrCert, 2},
		{p, wide(nil), claims(-1, 2, 4), api.ErrCert, 0},
		{p, wide(nil), claims(api.Least, 2, 4), api.ErrCert, 0},
		{p, wide(nil), claims(2, 4, api.Most), api.ErrCert, 2},
		{p, wide(nil), claims(2), api.ErrState, 2},
		{p, wide(nil), claims(4), api.ErrState, 0},
		{[]api.Ins{{}}, wide(nil), claims(0), api.ErrCert, 0},
		{[]api.Ins{{Op: api.Jump}}, wide(nil), claims(0), api.OK, 0},
		{[]api.Ins{{Op: api.Jump}}, wide(nil), nil, api.ErrState, 0},
		{[]api.Ins{{}, {Op: api.Less, A: 5, B: 5, K: 1}}, wide(nil), claims(1), api.ErrEnd, 2},
		{[]api.Ins{{}, {Op: api.Less, A: 5, B: 5, K: 0}}, wide(nil), claims(0), api.OK, 0},
	})
}

// P5: where there is no state nothing is looked at; where a claim gives one, all is, even if nothing comes there.
func TestCheckOfUnreachedPlaces(t *testing.T) {
	dead := []api.Ins{{}, {Op: api.Div, A: 0, B: 1, C: 2}, {Op: api.Load, A: 0, B: 1}, {Op: api.Jump, K: 1}}
	over := []api.Ins{{Op: api.Jump, K: 2}, {Op: api.Div}, {}, {Op: api.Set}}
	wantChecked(t, []checked{
		{dead, wide(nil), nil, api.OK, 0},
		{dead, wide(nil), []api.Claim{{At: 1, State: wide(nil)}}, api.ErrZero, 1},
		{dead, wide(nil), []api.Claim{{At: 1, State: wide(but{2: {Lo: 1, Hi: 1}})}}, api.ErrBounds, 2},
		{dead, wide(nil), []api.Claim{{At: 1, State: wide(but{1: {Lo: 2, Hi: 3}, 2: {Lo: 1, Hi: 1}})}}, api.OK, 0},
		{dead, wide(nil), []api.Claim{{At: 1, State: wide(but{0: {Lo: 0, Hi: 0}, 1: {Lo: 2, Hi: 3}, 2: {Lo: 1, Hi: 1}})}}, api.ErrState, 3},
		{over, wide(nil), []api.Claim{{At: 2, State: wide(nil)}}, api.OK, 0},
		{[]api.Ins{{Op: api.Jump, K: 1}, {}}, api.State{}, nil, api.ErrState, 0},
		{[]api.Ins{{Op: api.Same, A: 1, B: 2, K: 1}, {}}, wide(but{1: {Lo: 0, Hi: 0}, 2: {Lo: 1, Hi: 1}}), nil, api.ErrState, 1},
		{over[:3], wide(nil), []api.Claim{{At: 2, State: wide(nil)}}, api.OK, 0},
	})
}

// edgeRanges: all ranges between numbers at which what becomes of a state changes.
func edgeRanges() []api.Range {
	ends := []int{api.Least, api.Least + 1, -1<<31 - 1, -1 << 31, -2, -1, 0, 1, 3, 1 << 31, 1<<31 + 1, api.Most - 1, api.Most}
	var l []api.Range
	for n, lo := range ends {
		for _, hi := range ends[n:] {
			l = append(l, api.Range{Lo: lo, Hi: hi})
		}
	}
	return l
}

// narrower: the state, with one number less at one of its ends, for each end where that may be.
func narrower(s api.State) []api.State {
	var l []api.State
	for n := range s {
		if s[n].Lo < s[n].Hi {
			less, more := s, s
			less[n].Hi--
			more[n].Lo++
			l = append(l, less, more)
		}
	}
	return l
}

// P5: of the ranges of registers 1 and 2 becomes by an instruction just what the document says: a claim of that is taken, a narrower one or none is not.
func TestCheckOfWhatBecomes(t *testing.T) {
	for _, i := range []api.Ins{
		{Op: api.Set, A: 1, K: 7}, {Op: api.Move, A: 1, B: 2},
		{Op: api.Add, A: 3, B: 1, C: 2}, {Op: api.Sub, A: 1, B: 1, C: 2}, {Op: api.Mul, A: 2, B: 1, C: 2}, {Op: api.Div, A: 3, B: 1, C: 2},
		{Op: api.Add, A: 1, B: 2, C: 2}, {Op: api.Sub, A: 3, B: 2, C: 2}, {Op: api.Load, A: 1, B: 4}, {Op: api.Store, A: 4, B: 1},
		{Op: api.Less, A: 1, B: 2, K: 3}, {Op: api.Same, A: 1, B: 2, K: 3}, {Op: api.Less, A: 2, B: 2, K: 3}, {Op: api.Same, A: 2, B: 2, K: 3},
		{Op: api.Jump, K: 3}, {Op: api.Halt},
	} {
		for _, a := range edgeRanges() {
			for _, b := range edgeRanges() {
				if i.Op != api.Div || !holds(b, 0) {
					wantBecomes(t, i, api.State{1: a, 2: b})
				}
			}
		}
	}
}

// wantBecomes looks at both ways of an instruction: to K, which is 3, and on, whence a Jump goes to 4.
func wantBecomes(t *testing.T, i api.Ins, s api.State) {
	t.Helper()
	p := []api.Ins{i, {Op: api.Jump, K: 4}, {Op: api.Less, K: 3}, {}, {}}
	on, far := becomes(i, s)
	ways := []struct {
		at, by int
		s      *api.State
	}{{3, 0, far}, {4, 1, on}}
	var c []api.Claim
	for _, w := range ways {
		if w.s != nil {
			c = append(c, api.Claim{At: w.at, State: *w.s})
		}
	}
	cases := []checked{{p, s, c, api.OK, 0}}
	for n := range c {
		by := ways[c[n].At-3].by
		cases = append(cases, checked{p, s, slices.Delete(slices.Clone(c), n, n+1), api.ErrState, by})
		for _, less := range narrower(c[n].State) {
			claims := slices.Clone(c)
			claims[n].State = less
			cases = append(cases, checked{p, s, claims, api.ErrState, by})
		}
	}
	wantChecked(t, cases)
}

func TestCheckOfWrongPrograms(t *testing.T) {
	r := rand.New(rand.NewSource(14))
	for range 5000 {
		p := anyProgram(r)
		if want, wantAt := wantRight(p); want != api.OK {
			wantChecked(t, []checked{{p, someState(r), nil, want, wantAt}})
		}
	}
}
