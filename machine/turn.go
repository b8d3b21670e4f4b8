package machine

import "upshift/api"

// turns tells if an instruction says itself what comes behind it.
func turns(op int) bool {
	return op == api.Jump || op == api.Branch || op == api.Call || op == api.Return
}

func (m *Machine) turn(f *frame, ins api.Ins) {
	switch ins.Op {
	case api.Jump:
		f.at = int(ins.A)
	case api.Branch:
		f.branch(f.values.Pop(), int(ins.A))
	case api.Call:
		m.call(f, int(ins.A))
	case api.Return:
		m.giveBack(f.values.Pop())
	}
}

func (f *frame) branch(v api.Value, to int) {
	if v == (api.Value{}) || v == number(0) {
		f.at = to
	} else {
		f.at++
	}
}

func (m *Machine) call(f *frame, count int) {
	args := make([]api.Value, count)
	for i := range args {
		args[count-1-i] = f.values.Pop()
	}
	callee := f.values.Pop()
	if callee.Kind != api.IsFun || m.program[callee.N].Args != count {
		panic(trap(api.TrapCall))
	}
	if m.frames.Len() >= api.MaxFrames {
		panic(trap(api.TrapDeep))
	}
	f.at++
	m.newFrame(int(callee.N), args)
}

// newFrame gives a frame the code that is made of its function, if there is some: then it is in the high gear.
func (m *Machine) newFrame(fun int, args []api.Value) {
	locals := make([]api.Value, m.program[fun].Locals)
	copy(locals, args)
	m.frames.Push(&frame{fun: fun, locals: locals, code: m.made[fun]})
}

func (m *Machine) giveBack(v api.Value) {
	m.frames.Pop()
	if m.frames.Len() == 0 {
		m.gives = v
		return
	}
	m.frames.Top().values.Push(v)
}
