// Package machine runs programs in which nothing is wrong.
package machine

import (
	"upshift/api"
	"upshift/stack"
)

// Machine is a run, from its beginning to where it has ended.
type Machine struct {
	program []api.Func
	events  []api.Event // that have not come
	made    [][]stretch // of each function; of one that is not compiled nil
	frames  stack.Stack[*frame]
	arrays  [][]api.Value
	cells   int // of all arrays together
	printed []api.Value
	steps   int
	counts  api.Counts
	end     int
	gives   api.Value
}

// frame: its stack needs no bound here, since a program is loaded only if none of its stacks goes above it.
type frame struct {
	fun, at int
	locals  []api.Value
	values  stack.Stack[api.Value]
	code    []stretch // that it runs; in the low gear nil
}

// trap is what a step that is trapped panics with: how the run has ended.
type trap int

// Run does at most so many steps of a program, all of them in the low gear.
func Run(program []api.Func, fuel int) *Machine {
	return Shift(program, nil, fuel)
}

// Shift does at most so many steps of a program, in the gears that the events bring about.
func Shift(program []api.Func, events []api.Event, fuel int) *Machine {
	m := &Machine{program: program, events: events, made: make([][]stretch, len(program))}
	m.newFrame(0, nil)
	m.end = m.run(min(max(fuel, 0), api.MaxFuel))
	return m
}

// run lets events come ahead of asking for fuel: those of a step for which there is none come too. It passes on a panic that is no trap: that would be a fault of the program's own, and no way for a run to end.
func (m *Machine) run(fuel int) (end int) {
	defer func() {
		switch met := recover().(type) {
		case nil:
		case trap:
			end = int(met)
			m.count(m.frames.Top(), 1)
		default:
			panic(met)
		}
	}()
	for m.meet(); m.steps < fuel; m.meet() {
		m.goOn(fuel)
		if m.frames.Len() == 0 {
			return api.Halted
		}
	}
	return api.Starved
}

// goOn does a stretch only if it is over when the fuel ends and the next event comes: within it a frame cannot be stopped.
func (m *Machine) goOn(fuel int) {
	f := m.frames.Top()
	if f.code != nil && f.code[f.at].steps <= m.free(fuel) {
		f.code[f.at].do(m, f)
		return
	}
	m.step(f)
}

// free tells how many steps there are until the fuel ends or an event comes.
func (m *Machine) free(fuel int) int {
	if len(m.events) > 0 {
		fuel = min(fuel, m.events[0].Step)
	}
	return fuel - m.steps
}

func (m *Machine) step(f *frame) {
	ins := m.program[f.fun].Code[f.at]
	if turns(ins.Op) {
		m.turn(f, ins)
		m.count(f, 1)
		return
	}
	m.straight(f, ins)
	m.pass(f, 1)
}

// count is for steps that are done: one that is trapped is counted where the trap is caught.
func (m *Machine) count(f *frame, steps int) {
	m.steps += steps
	if f.code != nil {
		m.counts.High += steps
	}
}

// pass moves a frame on behind instructions that are done: one that is trapped stands where it was.
func (m *Machine) pass(f *frame, steps int) {
	m.count(f, steps)
	f.at += steps
}
