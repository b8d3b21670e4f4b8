// Package machine runs programs in which nothing is wrong.
package machine

import (
	"upshift/api"
	"upshift/stack"
)

// Machine is a run, from its beginning to where it has ended.
type Machine struct {
	program []api.Func
	frames  stack.Stack[*frame]
	arrays  [][]api.Value
	cells   int // of all arrays together
	printed []api.Value
	steps   int
	end     int
	gives   api.Value
}

// frame: its stack needs no bound here, since a program is loaded only if none of its stacks goes above it.
type frame struct {
	fun, at int
	locals  []api.Value
	values  stack.Stack[api.Value]
}

// trap is what a step that is trapped panics with: how the run has ended.
type trap int

// Run does at most so many steps of a program.
func Run(program []api.Func, fuel int) *Machine {
	m := &Machine{program: program}
	m.newFrame(0, nil)
	m.end = m.run(min(max(fuel, 0), api.MaxFuel))
	return m
}

// run passes on a panic that is no trap: that would be a fault of the program's own, and no way for a run to end.
func (m *Machine) run(fuel int) (end int) {
	defer func() {
		switch met := recover().(type) {
		case nil:
		case trap:
			end = int(met)
		default:
			panic(met)
		}
	}()
	for m.steps < fuel {
		m.step()
		if m.frames.Len() == 0 {
			return api.Halted
		}
	}
	return api.Starved
}

// step moves the frame on last of all: one that is trapped stands where it was.
func (m *Machine) step() {
	m.steps++
	f := m.frames.Top()
	ins := m.program[f.fun].Code[f.at]
	switch ins.Op {
	case api.Jump:
		f.at = int(ins.A)
	case api.Branch:
		f.branch(int(ins.A))
	case api.Call:
		m.call(f, int(ins.A))
	case api.Return:
		m.giveBack(f)
	default:
		m.straight(f, ins)
		f.at++
	}
}

func (f *frame) branch(to int) {
	v := f.values.Pop()
	if v == (api.Value{}) || v == number(0) {
		f.at = to
	} else {
		f.at++
	}
}

func (m *Machine) call(f *frame, count int) {
	args := make([]api.Value, count)
	for i := range args {
		args[count-1-i] = f.values.Pop()
	}
	callee := f.values.Pop()
	if callee.Kind != api.IsFun || m.program[callee.N].Args != count {
		panic(trap(api.TrapCall))
	}
	if m.frames.Len() >= api.MaxFrames {
		panic(trap(api.TrapDeep))
	}
	f.at++
	m.newFrame(int(callee.N), args)
}

func (m *Machine) newFrame(fun int, args []api.Value) {
	locals := make([]api.Value, m.program[fun].Locals)
	copy(locals, args)
	m.frames.Push(&frame{fun: fun, locals: locals})
}

func (m *Machine) giveBack(f *frame) {
	v := f.values.Pop()
	m.frames.Pop()
	if m.frames.Len() == 0 {
		m.gives = v
		return
	}
	m.frames.Top().values.Push(v)
}
