package surety

import (
	"math/rand"
	"slices"
	"testing"

	"surety/api"
)

// P1: whatever they are given, the calls that are built answer, and beside an error all else is nothing.
func TestCallsTakeAnything(t *testing.T) {
	r := rand.New(rand.NewSource(1))
	for range 10000 {
		p, regs, fuel := anyProgram(r), someRegs(r), someNumber(r)
		wrong, _ := Right(p)
		s, encodeErr := Encode(p)
		o, runErr := Run(p, regs, fuel)
		l, traceErr := Trace(p, regs, fuel)
		if encodeErr != wrong || runErr != wrong || traceErr != wrong {
			t.Fatalf("P1: of %v Right says %d, Encode %d, Run %d, Trace %d", p, wrong, encodeErr, runErr, traceErr)
		}
		if wrong != api.OK && (s != "" || o != (api.Outcome{}) || len(l) != 0) {
			t.Fatalf("P1: beside the error %d of %v: %q, %+v, %v", wrong, p, s, o, l)
		}
	}
}

func TestDecodeTakesAnything(t *testing.T) {
	r := rand.New(rand.NewSource(2))
	for range 50000 {
		b := make([]byte, r.Intn(40))
		for n := range b {
			b[n] = byte(r.Intn(16))
			if r.Intn(10) == 0 {
				b[n] = byte(r.Intn(256))
			}
		}
		if p, e := Decode(string(b)); (e == api.OK) != (len(p) > 0) || e != api.OK && e != api.ErrForm {
			t.Fatalf("P1: Decode(%q) = %v, %d", b, p, e)
		}
	}
}

// anyClaims: claims of any kind, at places of any kind.
func anyClaims(r *rand.Rand) []api.Claim {
	c := make([]api.Claim, r.Intn(5))
	for n := range c {
		c[n] = api.Claim{At: someNumber(r), State: anyState(r)}
	}
	return c
}

func anyState(r *rand.Rand) api.State {
	s := someState(r)
	if r.Intn(4) == 0 {
		for n := range s {
			s[n] = api.Range{Lo: someNumber(r), Hi: someNumber(r)}
		}
	}
	return s
}

// P1: whatever Check is given, it answers, and as P5 says; without an error there is no place.
func TestCheckTakesAnything(t *testing.T) {
	r := rand.New(rand.NewSource(15))
	for range 20000 {
		p, entry, c := anyProgram(r), anyState(r), anyClaims(r)
		want, wantAt := wantCheck(p, entry, c)
		if e, at := Check(p, entry, c); e != want || at != wantAt {
			t.Fatalf("P1: Check(%v, %v, %v) = %d, %d, want %d, %d", p, entry, c, e, at, want, wantAt)
		}
	}
}

// P1: so do Prove and Compile, and what they answer are P6's and P7's words; beside an error there are no claims and no thread.
func TestProveAndCompileTakeAnything(t *testing.T) {
	r := rand.New(rand.NewSource(17))
	for range 20000 {
		p, entry, c := anyProgram(r), anyState(r), anyClaims(r)
		want, wantErr, wantAt := wantProve(p, entry)
		if got, e, at := Prove(p, entry); !slices.Equal(got, want) || e != wantErr || at != wantAt {
			t.Fatalf("P1: Prove(%v, %v) = %v, %d, %d, want %v, %d, %d", p, entry, got, e, at, want, wantErr, wantAt)
		}
		wantErr, wantAt = wantCheck(p, entry, c)
		thread, e, at := Compile(p, entry, c)
		if e != wantErr || at != wantAt || (thread == nil) != (e != api.OK) {
			t.Fatalf("P1: Compile(%v, %v, %v) = %v, %d, %d, want %d, %d", p, entry, c, thread, e, at, wantErr, wantAt)
		}
		if thread != nil {
			thread.Run(someRegs(r), someNumber(r))
		}
	}
}

func TestCheckTakesManyClaims(t *testing.T) {
	c := make([]api.Claim, 100000)
	for n := range c {
		c[n] = api.Claim{At: n, State: wide(nil)}
	}
	p := make([]api.Ins, 64)
	for at := range p {
		p[at] = api.Ins{Op: api.Jump, K: at}
	}
	wantChecked(t, []checked{{p, wide(nil), c, api.ErrCert, 64}, {p, wide(nil), c[:64], api.OK, 0}})
}

// P2: neither a list that is handed in nor its spare room is written into.
func TestCallsLeaveTheirArguments(t *testing.T) {
	r := rand.New(rand.NewSource(10))
	for range 2000 {
		p := anyProgram(r)
		whole := append(slices.Clone(p), rightProgram(r)...)
		before := slices.Clone(whole)
		lent := whole[:len(p)]
		Right(lent)
		Encode(lent)
		Run(lent, someRegs(r), 50)
		Trace(lent, someRegs(r), 50)
		Check(lent, someState(r), nil)
		Prove(lent, someState(r))
		Compile(lent, someState(r), nil)
		if !slices.Equal(whole, before) {
			t.Fatalf("P2: %v was made %v", before, whole)
		}
	}
}

func TestCheckAndCompileLeaveTheirArguments(t *testing.T) {
	r := rand.New(rand.NewSource(16))
	for range 2000 {
		p, entry := tameProgram(r), tameEntry(r)
		c := settled(p, entry)
		whole := append(slices.Clone(c), anyClaims(r)...)
		programBefore, claimsBefore := slices.Clone(p), slices.Clone(whole)
		first, firstAt := Check(p, entry, whole[:len(c)])
		thread, second, secondAt := Compile(p, entry, whole[:len(c)])
		if thread != nil {
			thread.Run(regsWithin(r, entry), 100)
		}
		third, thirdAt := Check(p, entry, whole[:len(c)])
		if !slices.Equal(p, programBefore) || !slices.Equal(whole, claimsBefore) {
			t.Fatalf("P2: Check or Compile wrote into %v or %v", programBefore, claimsBefore)
		}
		if first != second || firstAt != secondAt || first != third || firstAt != thirdAt {
			t.Fatalf("P2: of %v Check answers %d, %d, Compile %d, %d, Check then %d, %d", p, first, firstAt, second, secondAt, third, thirdAt)
		}
	}
}

// P2: what comes out may be written into, spare room too, and no other answer is changed by it.
func TestAnswersAreFresh(t *testing.T) {
	s, _ := Encode(sums)
	first, _ := Decode(s)
	second, _ := Decode(s)
	spoilProgram(first)
	third, _ := Decode(s)
	if !slices.Equal(second, sums) || !slices.Equal(third, sums) {
		t.Errorf("P2: Decode after its answer was written into: %v, %v", second, third)
	}
	firstVisits, _ := Trace(sums, [api.Regs]int{}, 50)
	secondVisits, _ := Trace(sums, [api.Regs]int{}, 50)
	_, want := walk(sums, [api.Regs]int{}, 50)
	all := firstVisits[:cap(firstVisits)]
	for n := range all {
		all[n] = api.Visit{At: -1}
	}
	thirdVisits, _ := Trace(sums, [api.Regs]int{}, 50)
	if !slices.Equal(secondVisits, want) || !slices.Equal(thirdVisits, want) {
		t.Errorf("P2: Trace after its answer was written into: %v, %v", secondVisits, thirdVisits)
	}
}

func TestClaimsAreFresh(t *testing.T) {
	first, _, _ := Prove(sums, wide(nil))
	second, _, _ := Prove(sums, wide(nil))
	want := settled(sums, wide(nil))
	spoilClaims(first)
	third, _, _ := Prove(sums, wide(nil))
	if !slices.Equal(second, want) || !slices.Equal(third, want) {
		t.Errorf("P2: Prove after its answer was written into: %v, %v", second, third)
	}
	spoilClaims(second)
	wantChecked(t, []checked{{sums, wide(nil), third, api.OK, 0}})
}

func spoilProgram(p []api.Ins) {
	all := p[:cap(p)]
	for n := range all {
		all[n] = api.Ins{Op: -1}
	}
}

// P2: a program that was handed in once is not kept: it may be changed, and later answers hang on what it is then.
func TestAnswersHangOnArgumentsAlone(t *testing.T) {
	r := rand.New(rand.NewSource(11))
	room := make([]api.Ins, 64)
	for range 2000 {
		p, regs := rightProgram(r), someRegs(r)
		lent := room[:copy(room, p)]
		s, _ := Encode(lent)
		o, _ := Run(lent, regs, 70)
		l, _ := Trace(lent, regs, 70)
		spoilProgram(lent)
		back, _ := Decode(s)
		again, _ := Run(back, regs, 70)
		visits, _ := Trace(p, regs, 70)
		if !slices.Equal(back, p) || o != again || !slices.Equal(l, visits) {
			t.Fatalf("P2: of %v: %v, %+v and %+v, %v and %v", p, back, o, again, l, visits)
		}
	}
}
