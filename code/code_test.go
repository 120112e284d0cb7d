package code

import (
	"testing"

	"surety/api"
)

// needs: the fields and bytes of each op, as the document's table and P3 tell them.
var needs = [ops]struct {
	registers, k, bytes int
}{
	api.Halt: {0, 0, 1}, api.Set: {1, 8, 10}, api.Move: {2, 0, 3},
	api.Add: {3, 0, 4}, api.Sub: {3, 0, 4}, api.Mul: {3, 0, 4}, api.Div: {3, 0, 4},
	api.Load: {2, 0, 3}, api.Store: {2, 0, 3},
	api.Jump: {0, 1, 2}, api.Less: {2, 1, 4}, api.Same: {2, 1, 4},
}

func TestShapes(t *testing.T) {
	if ops != 12 {
		t.Fatalf("P3: %d ops, want 12", ops)
	}
	for op, want := range needs {
		if got := shapes[op]; got.registers != want.registers || got.k != want.k || got.bytes != want.bytes {
			t.Errorf("P3: op %d has %+v, want %+v", op, got, want)
		}
	}
}

func TestReadNumber(t *testing.T) {
	for _, c := range []struct {
		s    string
		want int
	}{
		{"", 0},
		{"\xff", 255},
		{"\x02\x01\x00\x00\x00\x00\x00\x00", 258},
		{"\xfe\xff\xff\xff\xff\xff\xff\xff", -2},
		{"\x00\x00\x00\x00\x00\x00\x00\x80", api.Least},
		{"\xff\xff\xff\xff\xff\xff\xff\x7f", api.Most},
	} {
		if got := readNumber(c.s); got != c.want {
			t.Errorf("P3: number %q is %d, want %d", c.s, got, c.want)
		}
	}
}
