package machine

import "upshift/api"

// newArray holds the length against the room that is left: with the cells there are it could go beyond 64 bits.
func (m *Machine) newArray(n api.Value) api.Value {
	length := integer(n)
	if length < 0 {
		panic(trap(api.TrapIndex))
	}
	if length > int64(api.MaxCells-m.cells) {
		panic(trap(api.TrapHeap))
	}
	m.cells += int(length)
	m.arrays = append(m.arrays, make([]api.Value, length))
	return api.Value{Kind: api.IsArray, N: int64(len(m.arrays) - 1)}
}

func (m *Machine) array(v api.Value) []api.Value {
	if v.Kind != api.IsArray {
		panic(trap(api.TrapType))
	}
	return m.arrays[v.N]
}

func (m *Machine) length(a api.Value) api.Value {
	return number(int64(len(m.array(a))))
}

// cell looks at both kinds ahead of the index.
func (m *Machine) cell(a, i api.Value) *api.Value {
	array, index := m.array(a), integer(i)
	if index < 0 || index >= int64(len(array)) {
		panic(trap(api.TrapIndex))
	}
	return &array[index]
}
