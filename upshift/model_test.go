package upshift

import (
	"math/big"
	"slices"

	"upshift/api"
)

// model is a run told the slow way, straight after the document's table: each step copies all that there is, and no step knows of the ones ahead of it.
type model struct {
	program []api.Func
	state   api.State
	outcome api.Outcome
}

func newModel(program []api.Func) model {
	first := api.Frame{Locals: make([]api.Value, program[0].Locals)}
	return model{program: program, state: api.State{Frames: []api.Frame{first}}, outcome: api.Outcome{End: api.Starved}}
}

func (m model) over() bool { return m.outcome.End != api.Starved }

func copyState(s api.State) api.State {
	var own api.State
	for _, f := range s.Frames {
		own.Frames = append(own.Frames, frame(f.Fun, f.At, slices.Clone(f.Locals), slices.Clone(f.Stack)))
	}
	for _, a := range s.Arrays {
		own.Arrays = append(own.Arrays, slices.Clone(a))
	}
	return own
}

// take splits the last values off the stack of the frame at hand.
func (m *model) take(count int) []api.Value {
	f := m.hand()
	cut := len(f.Stack) - count
	taken := f.Stack[cut:]
	f.Stack = slices.Clone(f.Stack[:cut])
	return taken
}

func (m *model) hand() *api.Frame { return &m.state.Frames[len(m.state.Frames)-1] }

func (m *model) push(v api.Value) { m.hand().Stack = append(slices.Clone(m.hand().Stack), v) }

// next tells the run behind one step more.
func (m model) next() model {
	m.state = copyState(m.state)
	m.outcome.Out = slices.Clone(m.outcome.Out)
	m.outcome.Steps++
	at := m.hand().At
	i := m.program[m.hand().Fun].Code[at]
	switch i.Op {
	case api.Call:
		m.call(int(i.A))
	case api.Return:
		m.giveBack()
	case api.Jump:
		m.hand().At = int(i.A)
	case api.Branch:
		m.hand().At = at + 1
		if v := m.take(1)[0]; v.Kind == api.IsNil || v.Kind == api.IsInt && v.N == 0 {
			m.hand().At = int(i.A)
		}
	default:
		if m.outcome.End = m.plainStep(i); !m.over() {
			m.hand().At = at + 1
		}
	}
	return m
}

func (m *model) call(count int) {
	all := m.take(count + 1)
	f := all[0]
	switch {
	case f.Kind != api.IsFun || m.program[f.N].Args != count:
		m.outcome.End = api.TrapCall
	case len(m.state.Frames) == 24:
		m.outcome.End = api.TrapDeep
	default:
		m.hand().At++
		locals := append(slices.Clone(all[1:]), make([]api.Value, m.program[f.N].Locals-count)...)
		m.state.Frames = append(m.state.Frames, frame(int(f.N), 0, locals, nil))
	}
}

func (m *model) giveBack() {
	v := m.take(1)[0]
	m.state.Frames = m.state.Frames[:len(m.state.Frames)-1]
	if len(m.state.Frames) == 0 {
		m.outcome.End, m.outcome.Gives = api.Halted, v
		return
	}
	m.push(v)
}

// plainStep tells how the run ends by this step: Starved, if it goes on.
func (m *model) plainStep(i api.Ins) int {
	switch i.Op {
	case api.Const:
		m.push(num(i.A))
	case api.Nil:
		m.push(api.Value{})
	case api.Fun:
		m.push(fun(i.A))
	case api.Load:
		m.push(m.hand().Locals[i.A])
	case api.Store:
		m.hand().Locals[i.A] = m.take(1)[0]
	case api.Print:
		m.outcome.Out = append(m.outcome.Out, m.take(1)[0])
	case api.Pop:
		m.take(1)
	case api.Dup:
		v := m.take(1)[0]
		m.push(v)
		m.push(v)
	case api.Equal:
		two := m.take(2)
		m.push(num(int64(map[bool]int{true: 1}[two[0].Kind == two[1].Kind && two[0].N == two[1].N])))
	case api.New:
		return m.newArray(m.take(1)[0])
	case api.Len, api.Get, api.Set:
		return m.cells(i.Op)
	default:
		return m.reckon(i.Op, m.take(2))
	}
	return api.Starved
}

func (m *model) newArray(n api.Value) int {
	cells := new(big.Int).SetInt64(n.N)
	for _, a := range m.state.Arrays {
		cells.Add(cells, big.NewInt(int64(len(a))))
	}
	switch {
	case n.Kind != api.IsInt:
		return api.TrapType
	case n.N < 0:
		return api.TrapIndex
	case cells.Cmp(big.NewInt(200)) > 0:
		return api.TrapHeap
	}
	m.push(arr(int64(len(m.state.Arrays))))
	m.state.Arrays = append(m.state.Arrays, make([]api.Value, n.N))
	return api.Starved
}

func (m *model) cells(op int) int {
	taken := m.take(map[int]int{api.Len: 1, api.Get: 2, api.Set: 3}[op])
	if taken[0].Kind != api.IsArray || op != api.Len && taken[1].Kind != api.IsInt {
		return api.TrapType
	}
	array := m.state.Arrays[taken[0].N]
	if op == api.Len {
		m.push(num(int64(len(array))))
		return api.Starved
	}
	for i := range array {
		if int64(i) == taken[1].N {
			if op == api.Get {
				m.push(array[i])
			} else {
				array[i] = taken[2]
			}
			return api.Starved
		}
	}
	return api.TrapIndex
}

// reckon goes by numbers of any size, cut to 64 bits behind that.
func (m *model) reckon(op int, two []api.Value) int {
	if two[0].Kind != api.IsInt || two[1].Kind != api.IsInt {
		return api.TrapType
	}
	a, b, c := big.NewInt(two[0].N), big.NewInt(two[1].N), new(big.Int)
	switch op {
	case api.Add:
		c.Add(a, b)
	case api.Sub:
		c.Sub(a, b)
	case api.Mul:
		c.Mul(a, b)
	case api.Less:
		c.SetInt64(int64(max(0, b.Cmp(a))))
	case api.Div:
		if b.Sign() == 0 {
			return api.TrapDivide
		}
		c.Quo(a, b)
	}
	c.And(c, new(big.Int).SetUint64(1<<64-1))
	m.push(num(int64(c.Uint64())))
	return api.Starved
}
