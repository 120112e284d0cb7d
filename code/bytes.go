package code

import "surety/api"

// Encode writes a right program as bytes.
func Encode(p []api.Ins) string {
	out := []byte{byte(len(p))}
	for _, i := range p {
		out = appendInstruction(out, i)
	}
	return string(out)
}

func appendInstruction(out []byte, i api.Ins) []byte {
	s := shapes[i.Op]
	registers := registersOf(i)
	out = append(out, byte(i.Op))
	for n := range s.registers {
		out = append(out, byte(registers[n]))
	}
	for n := range s.k {
		out = append(out, byte(uint64(i.K)>>(8*n)))
	}
	return out
}

// Decode reads a program. Each right program has only one form as bytes, so what is read whole and is right needs no writing again to compare.
func Decode(s string) ([]api.Ins, api.Errno) {
	if s == "" {
		return nil, api.ErrForm
	}
	count, rest := int(s[0]), s[1:]
	p := make([]api.Ins, 0, count)
	for range count {
		i, size := readInstruction(rest)
		if size == 0 {
			return nil, api.ErrForm
		}
		p, rest = append(p, i), rest[size:]
	}
	if e, _ := Right(p); e != api.OK || rest != "" {
		return nil, api.ErrForm
	}
	return p, api.OK
}

// readInstruction reads the first instruction of s, and tells how many bytes it had: 0, if there is none.
func readInstruction(s string) (api.Ins, int) {
	if s == "" || int(s[0]) >= len(shapes) {
		return api.Ins{}, 0
	}
	op := int(s[0])
	size := shapes[op].bytes
	if len(s) < size {
		return api.Ins{}, 0
	}
	var registers [3]int
	for n := range shapes[op].registers {
		registers[n] = int(s[1+n])
	}
	k := readNumber(s[size-shapes[op].k : size])
	return api.Ins{Op: op, A: registers[0], B: registers[1], C: registers[2], K: k}, size
}

func readNumber(s string) int {
	var k uint64
	for n := range len(s) {
		k |= uint64(s[n]) << (8 * n)
	}
	return int(k)
}
