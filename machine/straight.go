package machine

import "upshift/api"

// straight does an instruction behind which, in the same frame, always the next one comes.
func (m *Machine) straight(f *frame, ins api.Ins) {
	switch ins.Op {
	case api.Const:
		f.values.Push(number(ins.A))
	case api.Nil:
		f.values.Push(api.Value{})
	case api.Fun:
		f.values.Push(api.Value{Kind: api.IsFun, N: ins.A})
	case api.Load:
		f.values.Push(f.locals[ins.A])
	case api.Store:
		f.locals[ins.A] = f.values.Pop()
	case api.Add, api.Sub, api.Mul, api.Div, api.Less:
		f.reckon(ins.Op)
	case api.Equal:
		b := f.values.Pop()
		a := f.values.Pop()
		f.values.Push(number(truth(a == b)))
	case api.New:
		m.newArray(f)
	case api.Len:
		f.values.Push(number(int64(len(m.array(f.values.Pop())))))
	case api.Get:
		f.values.Push(*m.cell(f))
	case api.Set:
		v := f.values.Pop()
		*m.cell(f) = v
	case api.Print:
		m.printed = append(m.printed, f.values.Pop())
	case api.Pop:
		f.values.Pop()
	case api.Dup:
		f.values.Push(f.values.Top())
	}
}

func (f *frame) reckon(op int) {
	b := f.values.Pop()
	a := f.values.Pop()
	f.values.Push(number(result(op, integer(a), integer(b))))
}

func result(op int, a, b int64) int64 {
	switch op {
	case api.Add:
		return a + b
	case api.Sub:
		return a - b
	case api.Mul:
		return a * b
	case api.Div:
		return quotient(a, b)
	}
	return truth(a < b)
}

// quotient may leave the least number by -1 to the language: there too it is itself.
func quotient(a, b int64) int64 {
	if b == 0 {
		panic(trap(api.TrapDivide))
	}
	return a / b
}

func number(n int64) api.Value {
	return api.Value{Kind: api.IsInt, N: n}
}

func integer(v api.Value) int64 {
	if v.Kind != api.IsInt {
		panic(trap(api.TrapType))
	}
	return v.N
}

func truth(holds bool) int64 {
	if holds {
		return 1
	}
	return 0
}
