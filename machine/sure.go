package machine

// Sure is the same program without the looks by which a run ends by ZERO or BOUNDS. It is run only where a certificate says that it ends by neither.
func (p Program) Sure() Program {
	sure := make(Program, 0, len(p))
	for _, i := range p {
		sure = append(sure, sureOf(i))
	}
	return sure
}

func sureOf(i instruction) instruction {
	switch i := i.(type) {
	case div:
		return sureDiv{i}
	case load:
		return sureLoad{i}
	case store:
		return sureStore{i}
	}
	return i
}

type sureDiv struct{ div }

func (i sureDiv) do(m *machine) int {
	m.regs[i.a] = m.regs[i.b] / m.regs[i.c]
	return goesOn
}

type sureLoad struct{ load }

func (i sureLoad) do(m *machine) int {
	m.regs[i.a] = m.words[m.regs[i.b]]
	return goesOn
}

type sureStore struct{ store }

func (i sureStore) do(m *machine) int {
	m.words[m.regs[i.a]] = m.regs[i.b]
	return goesOn
}
