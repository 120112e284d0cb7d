package surety

import (
	"math/rand"
	"slices"
	"strings"
	"testing"

	"surety/api"
)

func TestRightOfEachFieldAtItsEdges(t *testing.T) {
	for op := range 12 {
		for field := range 4 {
			for _, v := range edges {
				i := api.Ins{Op: op}
				*[]*int{&i.A, &i.B, &i.C, &i.K}[field] = v
				p := []api.Ins{{}, i, {}, {}, {}, {}, {}, {}}
				wantErr, wantAt := wantRight(p)
				if e, at := Right(p); e != wantErr || at != wantAt {
					t.Errorf("P3: Right with %+v at 1 of 8 = %d, %d, want %d, %d", i, e, at, wantErr, wantAt)
				}
			}
		}
	}
}

func TestRightOfOps(t *testing.T) {
	for _, op := range []int{api.Least, -1, 12, 13, 255, 256, 256 + api.Set, api.Most} {
		if e, at := Right([]api.Ins{{}, {Op: op}}); e != api.ErrProgram || at != 1 {
			t.Errorf("P3: Right with op %d at 1 = %d, %d", op, e, at)
		}
	}
}

func TestRightOfLengths(t *testing.T) {
	for _, c := range []struct {
		count int
		want  api.Errno
	}{{0, api.ErrProgram}, {1, api.OK}, {63, api.OK}, {64, api.OK}, {65, api.ErrProgram}, {256, api.ErrProgram}, {257, api.ErrProgram}, {100000, api.ErrProgram}} {
		if e, at := Right(make([]api.Ins, c.count)); e != c.want || at != 0 {
			t.Errorf("P3: Right of %d Halts = %d, %d, want %d, 0", c.count, e, at, c.want)
		}
	}
}

func TestRightTellsTheFirstPlace(t *testing.T) {
	long := make([]api.Ins, 65)
	long[3].Op = 99
	last := make([]api.Ins, 64)
	last[63] = api.Ins{Op: api.Jump, K: 64}
	for _, c := range []struct {
		p  []api.Ins
		at int
	}{
		{long, 0},
		{last, 63},
		{[]api.Ins{{}, {A: 1}, {Op: 12}}, 1},
		{[]api.Ins{{}, {}, {Op: api.Add, C: 8}, {Op: -1}}, 2},
	} {
		if e, at := Right(c.p); e != api.ErrProgram || at != c.at {
			t.Errorf("P3: Right(%v) = %d, %d, want ErrProgram, %d", c.p, e, at, c.at)
		}
	}
}

func TestRightOfMany(t *testing.T) {
	r := rand.New(rand.NewSource(3))
	for range 20000 {
		p := anyProgram(r)
		wantErr, wantAt := wantRight(p)
		if e, at := Right(p); e != wantErr || at != wantAt {
			t.Fatalf("P3: Right(%v) = %d, %d, want %d, %d", p, e, at, wantErr, wantAt)
		}
	}
}

func TestEncodeExample(t *testing.T) {
	p := []api.Ins{{Op: api.Set, A: 1, K: -2}, {Op: api.Less, A: 0, B: 1, K: 0}, {Op: api.Halt}}
	want := string([]byte{3, 1, 1, 254, 255, 255, 255, 255, 255, 255, 255, 10, 0, 1, 0, 0})
	if s, e := Encode(p); s != want || e != api.OK {
		t.Errorf("P3: Encode = %q, %d, want %q", s, e, want)
	}
	if q, e := Decode(want); !slices.Equal(q, p) || e != api.OK {
		t.Errorf("P3: Decode = %v, %d, want %v", q, e, p)
	}
}

// written: P3's words on Encode, apart from the program's own.
func written(p []api.Ins) string {
	out := []byte{byte(len(p))}
	for _, i := range p {
		out = append(out, byte(i.Op))
		for n, v := range []int{i.A, i.B, i.C} {
			if has(i.Op, "ABC"[n]) {
				out = append(out, byte(v))
			}
		}
		if isJump(i.Op) {
			out = append(out, byte(i.K))
		} else if i.Op == api.Set {
			for _, shift := range []int{0, 8, 16, 24, 32, 40, 48, 56} {
				out = append(out, byte(i.K>>shift))
			}
		}
	}
	return string(out)
}

func TestEncodeAndDecodeOfMany(t *testing.T) {
	r := rand.New(rand.NewSource(4))
	for range 5000 {
		p := rightProgram(r)
		want := written(p)
		if s, e := Encode(p); s != want || e != api.OK {
			t.Fatalf("P3: Encode(%v) = %q, %d, want %q", p, s, e, want)
		}
		if q, e := Decode(want); !slices.Equal(q, p) || e != api.OK {
			t.Fatalf("P3: Decode(%q) = %v, %d, want %v", want, q, e, p)
		}
	}
}

func wantNoForm(t *testing.T, s string) {
	t.Helper()
	if p, e := Decode(s); len(p) != 0 || e != api.ErrForm {
		t.Fatalf("P3: Decode(%q) = %v, %d, want ErrForm", s, p, e)
	}
}

func TestDecodeOfTooLittleAndTooMuch(t *testing.T) {
	r := rand.New(rand.NewSource(5))
	for range 500 {
		s := written(rightProgram(r))
		for n := range len(s) {
			wantNoForm(t, s[:n])
		}
		for _, more := range []string{"\x00", "\xff", s} {
			wantNoForm(t, s+more)
		}
	}
}

func TestDecodeOfWrongBytes(t *testing.T) {
	for _, s := range []string{
		"", "\x00", "\x00\x00", "\x01", "\xff",
		"\x01\x0c", "\x01\xff",
		"\x01\x01\x08\x00\x00\x00\x00\x00\x00\x00\x00",
		"\x01\x02\x00\x08", "\x01\x03\x00\x00\xff", "\x01\x06\x00\x00\x08", "\x01\x07\x08\x00", "\x01\x08\x00\x08",
		"\x01\x09\x01", "\x01\x09\xff", "\x01\x0a\x00\x00\x01", "\x01\x0b\x00\x00\x01", "\x01\x0b\x08\x00\x00",
		"\x02\x00\x09\x02",
		"\x41" + strings.Repeat("\x00", 65),
		"\xff" + strings.Repeat("\x00", 255),
	} {
		wantNoForm(t, s)
	}
	if p, e := Decode("\x40" + strings.Repeat("\x00", 64)); len(p) != 64 || e != api.OK {
		t.Errorf("P3: Decode of 64 Halts = %v, %d", p, e)
	}
}

// Whatever is decoded must be right, and its Encode the string itself; each byte of a right string is changed to look for others.
func TestDecodeTakesOnlyWhatIsEncoded(t *testing.T) {
	r := rand.New(rand.NewSource(6))
	for range 300 {
		s := []byte(written(rightProgram(r)))
		for n := range s {
			old := s[n]
			for _, v := range []byte{0, 1, 7, 8, 9, 11, 12, old + 1, old - 1, old ^ 128, 255} {
				s[n] = v
				p, e := Decode(string(s))
				wrong, _ := wantRight(p)
				if e == api.OK && (wrong != api.OK || written(p) != string(s)) || e != api.OK && (e != api.ErrForm || len(p) != 0) {
					t.Fatalf("P3: Decode(%q) = %v, %d", s, p, e)
				}
			}
			s[n] = old
		}
	}
}

func TestEncodeOfWrongPrograms(t *testing.T) {
	r := rand.New(rand.NewSource(7))
	for range 5000 {
		p := anyProgram(r)
		if want, _ := wantRight(p); want != api.OK {
			if s, e := Encode(p); s != "" || e != api.ErrProgram {
				t.Fatalf("P3: Encode(%v) = %q, %d, want ErrProgram", p, s, e)
			}
		}
	}
}
