package surety

import (
	"math/rand"
	"slices"
	"testing"

	"surety/api"
)

// P1: whatever they are given, the calls that are built answer, and beside an error all else is nothing.
func TestCallsTakeAnything(t *testing.T) {
	r := rand.New(rand.NewSource(1))
	for range 10000 {
		p, regs, fuel := anyProgram(r), someRegs(r), someNumber(r)
		wrong, _ := Right(p)
		s, encodeErr := Encode(p)
		o, runErr := Run(p, regs, fuel)
		l, traceErr := Trace(p, regs, fuel)
		if encodeErr != wrong || runErr != wrong || traceErr != wrong {
			t.Fatalf("P1: of %v Right says %d, Encode %d, Run %d, Trace %d", p, wrong, encodeErr, runErr, traceErr)
		}
		if wrong != api.OK && (s != "" || o != (api.Outcome{}) || len(l) != 0) {
			t.Fatalf("P1: beside the error %d of %v: %q, %+v, %v", wrong, p, s, o, l)
		}
	}
}

func TestDecodeTakesAnything(t *testing.T) {
	r := rand.New(rand.NewSource(2))
	for range 50000 {
		b := make([]byte, r.Intn(40))
		for n := range b {
			b[n] = byte(r.Intn(16))
			if r.Intn(10) == 0 {
				b[n] = byte(r.Intn(256))
			}
		}
		if p, e := Decode(string(b)); (e == api.OK) != (len(p) > 0) || e != api.OK && e != api.ErrForm {
			t.Fatalf("P1: Decode(%q) = %v, %d", b, p, e)
		}
	}
}

// P2: neither a list that is handed in nor its spare room is written into.
func TestCallsLeaveTheirArguments(t *testing.T) {
	r := rand.New(rand.NewSource(10))
	for range 2000 {
		p := anyProgram(r)
		whole := append(slices.Clone(p), rightProgram(r)...)
		before := slices.Clone(whole)
		lent := whole[:len(p)]
		Right(lent)
		Encode(lent)
		Run(lent, someRegs(r), 50)
		Trace(lent, someRegs(r), 50)
		if !slices.Equal(whole, before) {
			t.Fatalf("P2: %v was made %v", before, whole)
		}
	}
}

// P2: what comes out may be written into, spare room too, and no other answer is changed by it.
func TestAnswersAreFresh(t *testing.T) {
	s, _ := Encode(sums)
	first, _ := Decode(s)
	second, _ := Decode(s)
	spoilProgram(first)
	third, _ := Decode(s)
	if !slices.Equal(second, sums) || !slices.Equal(third, sums) {
		t.Errorf("P2: Decode after its answer was written into: %v, %v", second, third)
	}
	firstVisits, _ := Trace(sums, [api.Regs]int{}, 50)
	secondVisits, _ := Trace(sums, [api.Regs]int{}, 50)
	_, want := walk(sums, [api.Regs]int{}, 50)
	all := firstVisits[:cap(firstVisits)]
	for n := range all {
		all[n] = api.Visit{At: -1}
	}
	thirdVisits, _ := Trace(sums, [api.Regs]int{}, 50)
	if !slices.Equal(secondVisits, want) || !slices.Equal(thirdVisits, want) {
		t.Errorf("P2: Trace after its answer was written into: %v, %v", secondVisits, thirdVisits)
	}
}

func spoilProgram(p []api.Ins) {
	all := p[:cap(p)]
	for n := range all {
		all[n] = api.Ins{Op: -1}
	}
}

// P2: a program that was handed in once is not kept: it may be changed, and later answers hang on what it is then.
func TestAnswersHangOnArgumentsAlone(t *testing.T) {
	r := rand.New(rand.NewSource(11))
	room := make([]api.Ins, 64)
	for range 2000 {
		p, regs := rightProgram(r), someRegs(r)
		lent := room[:copy(room, p)]
		s, _ := Encode(lent)
		o, _ := Run(lent, regs, 70)
		l, _ := Trace(lent, regs, 70)
		spoilProgram(lent)
		back, _ := Decode(s)
		again, _ := Run(back, regs, 70)
		visits, _ := Trace(p, regs, 70)
		if !slices.Equal(back, p) || o != again || !slices.Equal(l, visits) {
			t.Fatalf("P2: of %v: %v, %+v and %+v, %v and %v", p, back, o, again, l, visits)
		}
	}
}
