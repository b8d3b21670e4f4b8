package machine

import "upshift/api"

// stretch is code that is made of instructions one behind the other: do does all of them at one go.
type stretch struct {
	steps int
	do    deed
}

// deed is what code does, with nothing left to be asked of the instructions that it was made of.
type deed func(m *Machine, f *frame)

// operand reads a value that the low gear would have pushed.
type operand func(f *frame) api.Value

// maker makes a stretch. Instructions that push a constant or a local are not done by themselves: their values wait, and are read where they are popped.
type maker struct {
	deeds   []deed
	waiting []operand // from the bottom on, above what is pushed
	seen    int       // instructions
	passed  int       // those of them that the deeds pass
}

// compiled makes a stretch from each instruction on, since a frame may stand at any one when an event has come.
func compiled(code []api.Ins) []stretch {
	made := make([]stretch, len(code))
	for at := range code {
		made[at] = stretchOf(code[at:])
	}
	return made
}

// stretchOf goes to the first instruction that turns. Where there is none the code goes beyond the function's end: nothing comes to such code.
func stretchOf(code []api.Ins) stretch {
	k := &maker{}
	for _, ins := range code {
		if turns(ins.Op) {
			k.turn(ins)
			break
		}
		k.straight(ins)
	}
	return stretch{steps: k.seen, do: allOf(k.deeds)}
}

func allOf(deeds []deed) deed {
	return func(m *Machine, f *frame) {
		for _, do := range deeds {
			do(m, f)
		}
	}
}

func (k *maker) turn(ins api.Ins) {
	a := int(ins.A)
	switch ins.Op {
	case api.Jump:
		k.level()
		k.then(func(_ *Machine, f *frame) { f.at = a })
	case api.Branch:
		v := k.pop()
		k.level()
		k.then(func(_ *Machine, f *frame) { f.branch(v(f), a) })
	case api.Call:
		k.level()
		k.then(func(m *Machine, f *frame) { m.call(f, a) })
	case api.Return:
		v := k.pop()
		k.level()
		k.then(func(m *Machine, f *frame) { m.giveBack(v(f)) })
	}
	k.then(func(m *Machine, f *frame) { m.count(f, 1) })
	k.seen++
}

func (k *maker) straight(ins api.Ins) {
	switch ins.Op {
	case api.Const:
		k.waitFor(number(ins.A))
	case api.Nil:
		k.waitFor(api.Value{})
	case api.Fun:
		k.waitFor(function(ins.A))
	case api.Load:
		k.wait(func(f *frame) api.Value { return f.locals[ins.A] })
	case api.Store:
		k.store(int(ins.A))
	case api.Print:
		v := k.pop()
		k.then(func(m *Machine, f *frame) { m.print(v(f)) })
	case api.Pop:
		k.drop()
	case api.Dup:
		k.dup()
	case api.Equal:
		k.equal()
	case api.Add, api.Sub, api.Mul, api.Div, api.Less:
		k.reckon(rule(ins.Op))
	default:
		k.array(ins.Op)
	}
	k.seen++
}
