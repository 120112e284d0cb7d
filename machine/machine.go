// Package machine has the instructions: it runs programs that are right, and tells what becomes of states by them.
package machine

import "surety/api"

// machine is a run as far as it has come.
type machine struct {
	program Program
	regs    [api.Regs]int
	words   [api.Words]int
	at      int
	steps   int
	fuel    int
	outcome api.Outcome // its Kind is goesOn till the run has ended
}

// Run runs a program to its end.
func (p Program) Run(regs [api.Regs]int, fuel int) api.Outcome {
	m := p.start(regs, fuel)
	for m.isReady() {
		m.step()
	}
	return m.outcome
}

// Trace runs a program and tells the first instructions that it does.
func (p Program) Trace(regs [api.Regs]int, fuel int) []api.Visit {
	m := p.start(regs, fuel)
	var visits []api.Visit
	for len(visits) < api.MaxVisits && m.isReady() {
		visits = append(visits, api.Visit{At: m.at, Regs: m.regs})
		m.step()
	}
	return visits
}

func (p Program) start(regs [api.Regs]int, fuel int) *machine {
	return &machine{program: p, regs: regs, fuel: min(max(fuel, 0), api.MaxFuel)}
}

// isReady tells whether there is an instruction to do, and fuel for it. The end is asked for first: behind the last instruction a run ends by END, even without fuel.
func (m *machine) isReady() bool {
	if m.outcome.Kind != goesOn {
		return false
	}
	if m.at == len(m.program) {
		m.end(api.End, m.at)
		return false
	}
	if m.steps == m.fuel {
		m.end(api.Fuel, m.at)
		return false
	}
	return true
}

func (m *machine) step() {
	here := m.at
	m.at++
	m.steps++
	if kind := m.program[here].do(m); kind != goesOn {
		m.end(kind, here)
	}
}

func (m *machine) end(kind, at int) {
	m.outcome = api.Outcome{Kind: kind, At: at, Steps: m.steps}
	if kind == api.Done {
		m.outcome.Value = m.regs[0]
	}
}
