package machine

import "upshift/api"

// newArray holds the length against the room that is left: with the cells there are it could go beyond 64 bits.
func (m *Machine) newArray(f *frame) {
	length := integer(f.values.Pop())
	if length < 0 {
		panic(trap(api.TrapIndex))
	}
	if length > int64(api.MaxCells-m.cells) {
		panic(trap(api.TrapHeap))
	}
	m.cells += int(length)
	f.values.Push(api.Value{Kind: api.IsArray, N: int64(len(m.arrays))})
	m.arrays = append(m.arrays, make([]api.Value, length))
}

func (m *Machine) array(v api.Value) []api.Value {
	if v.Kind != api.IsArray {
		panic(trap(api.TrapType))
	}
	return m.arrays[v.N]
}

// cell pops an index and an array: both are popped ahead of a trap, and both kinds are looked at ahead of the index.
func (m *Machine) cell(f *frame) *api.Value {
	i := f.values.Pop()
	a := f.values.Pop()
	array, index := m.array(a), integer(i)
	if index < 0 || index >= int64(len(array)) {
		panic(trap(api.TrapIndex))
	}
	return &array[index]
}
