package upshift

import (
	"testing"

	"upshift/api"
)

// grownPrograms and grownFuel: so many that each end comes often.
const grownPrograms, grownFuel = 3000, 150

// P5 and P6: grown programs, stopped at each of their steps, against the model.
func TestGrownProgramsAgainstTheModel(t *testing.T) {
	ends, ops := map[int]int{}, map[int]int{}
	for seed := range uint64(grownPrograms) {
		program := grow(seed)
		c, err, fun, at := Load(program)
		if err != api.OK {
			t.Fatalf("seed %d: Load = %d, %d, %d", seed, err, fun, at)
		}
		m := newModel(program)
		for fuel := 0; fuel <= grownFuel && !m.over(); fuel++ {
			if fuel > 0 {
				f := m.hand()
				ops[program[f.Fun].Code[f.At].Op]++
				m = m.next()
			}
			wantRun(t, "grown", c, fuel, m.outcome)
			wantLook(t, "grown", c, fuel, m.state)
			if t.Failed() {
				t.Fatalf("seed %d: %v", seed, program)
			}
		}
		ends[m.outcome.End]++
	}
	for end := api.Halted; end <= api.TrapHeap; end++ {
		if ends[end] < 10 {
			t.Errorf("only %d grown programs end with %d: %v", ends[end], end, ends)
		}
	}
	for op := api.Const; op <= api.Dup; op++ {
		if ops[op] < 100 {
			t.Errorf("only %d steps of instruction %d: %v", ops[op], op, ops)
		}
	}
}
