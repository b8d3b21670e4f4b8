package machine

import "upshift/api"

// straight does an instruction behind which, in the same frame, always the next one comes.
func (m *Machine) straight(f *frame, ins api.Ins) {
	switch ins.Op {
	case api.Const:
		f.values.Push(number(ins.A))
	case api.Nil:
		f.values.Push(api.Value{})
	case api.Fun:
		f.values.Push(function(ins.A))
	case api.Load:
		f.values.Push(f.locals[ins.A])
	case api.Store:
		f.locals[ins.A] = f.values.Pop()
	case api.Add, api.Sub, api.Mul, api.Div, api.Less:
		a, b := f.popTwo()
		f.values.Push(reckoned(rule(ins.Op), a, b))
	case api.Equal:
		a, b := f.popTwo()
		f.values.Push(equal(a, b))
	case api.New:
		f.values.Push(m.newArray(f.values.Pop()))
	case api.Len:
		f.values.Push(m.length(f.values.Pop()))
	case api.Get:
		a, i := f.popTwo()
		f.values.Push(*m.cell(a, i))
	case api.Set:
		v := f.values.Pop()
		a, i := f.popTwo()
		*m.cell(a, i) = v
	case api.Print:
		m.print(f.values.Pop())
	case api.Pop:
		f.values.Pop()
	case api.Dup:
		f.values.Push(f.values.Top())
	}
}

func (f *frame) popTwo() (a, b api.Value) {
	b = f.values.Pop()
	a = f.values.Pop()
	return a, b
}

func (m *Machine) print(v api.Value) {
	m.printed = append(m.printed, v)
}

// rule is how an instruction reckons. The low gear asks for it at each step, compiled code has asked when it was made.
func rule(op int) func(a, b int64) int64 {
	switch op {
	case api.Add:
		return func(a, b int64) int64 { return a + b }
	case api.Sub:
		return func(a, b int64) int64 { return a - b }
	case api.Mul:
		return func(a, b int64) int64 { return a * b }
	case api.Div:
		return quotient
	}
	return func(a, b int64) int64 { return truth(a < b) }
}

// quotient may leave the least number by -1 to the language: there too it is itself.
func quotient(a, b int64) int64 {
	if b == 0 {
		panic(trap(api.TrapDivide))
	}
	return a / b
}

func reckoned(rule func(a, b int64) int64, a, b api.Value) api.Value {
	return number(rule(integer(a), integer(b)))
}

func equal(a, b api.Value) api.Value {
	return number(truth(a == b))
}

func number(n int64) api.Value {
	return api.Value{Kind: api.IsInt, N: n}
}

func function(n int64) api.Value {
	return api.Value{Kind: api.IsFun, N: n}
}

func integer(v api.Value) int64 {
	if v.Kind != api.IsInt {
		panic(trap(api.TrapType))
	}
	return v.N
}

func truth(holds bool) int64 {
	if holds {
		return 1
	}
	return 0
}
