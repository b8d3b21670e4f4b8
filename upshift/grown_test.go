package upshift

import (
	"cmp"
	"math/rand/v2"
	"slices"
	"testing"

	"upshift/api"
)

// grownPrograms and grownFuel: so many that each end comes often.
const grownPrograms, grownFuel = 3000, 150

// P5 and P6: grown programs, stopped at each of their steps, against the model.
func TestGrownProgramsAgainstTheModel(t *testing.T) {
	ends, ops := map[int]int{}, map[int]int{}
	for seed := range uint64(grownPrograms) {
		program := grow(seed)
		c, err, fun, at := Load(program)
		if err != api.OK {
			t.Fatalf("seed %d: Load = %d, %d, %d", seed, err, fun, at)
		}
		m := newModel(program)
		for fuel := 0; fuel <= grownFuel && !m.over(); fuel++ {
			if fuel > 0 {
				f := m.hand()
				ops[program[f.Fun].Code[f.At].Op]++
				m = m.next()
			}
			wantLow(t, "grown", c, fuel, m.outcome)
			wantLook(t, "grown", c, fuel, m.state)
			if t.Failed() {
				t.Fatalf("seed %d: %v", seed, program)
			}
		}
		ends[m.outcome.End]++
	}
	for end := api.Halted; end <= api.TrapHeap; end++ {
		if ends[end] < 10 {
			t.Errorf("only %d grown programs end with %d: %v", ends[end], end, ends)
		}
	}
	for op := api.Const; op <= api.Dup; op++ {
		if ops[op] < 100 {
			t.Errorf("only %d steps of instruction %d: %v", ops[op], op, ops)
		}
	}
}

// headSteps tells ahead of which steps of a run the frame at hand stands at a head.
func headSteps(program []api.Func) []int {
	var steps []int
	for step, g := range trace(program, nil, grownFuel) {
		if !g.over() && g.atHead() {
			steps = append(steps, step)
		}
	}
	return steps
}

// growEvents makes events of all kinds, few or many of them; those that go up mostly where they can.
func growEvents(r *rand.Rand, program []api.Func, heads []int) []api.Event {
	var events []api.Event
	for fun := range program {
		if r.IntN(5) > 0 {
			events = append(events, compile(r.IntN(2)*r.IntN(20), fun))
		}
	}
	for range r.IntN(1 + []int{3, 10, 60}[r.IntN(3)]) {
		step, fun := r.IntN(grownFuel), r.IntN(len(program))
		switch pick := r.IntN(10); {
		case pick < 5 && len(heads) > 0:
			events = append(events, enter(heads[r.IntN(len(heads))]))
		case pick < 6:
			events = append(events, enter(step))
		case pick < 7:
			events = append(events, exit(step))
		case pick < 8:
			events = append(events, drop(step, fun))
		default:
			events = append(events, compile(step, fun))
		}
	}
	slices.SortStableFunc(events, func(a, b api.Event) int { return cmp.Compare(a.Step, b.Step) })
	return events
}

// P7 and P8: grown programs with grown events, against the model: outcome, counts, and how the run stands.
func TestGrownShiftsAgainstTheModel(t *testing.T) {
	ends, sum := map[int]int{}, api.Counts{}
	for seed := range uint64(grownPrograms) {
		program := grow(seed)
		c := loaded(t, program...)
		heads := headSteps(program)
		r := rand.New(rand.NewPCG(seed, 8))
		for range 3 {
			events := growEvents(r, program, heads)
			all := trace(program, events, grownFuel)
			last := len(all) - 1
			for _, fuel := range []int{r.IntN(last + 1), r.IntN(last + 1), last, last + 1} {
				want := all[min(fuel, last)]
				outcome, counts, err := c.Shift(events, min(fuel, grownFuel))
				state, errStop := c.Stop(events, min(fuel, grownFuel))
				if err != api.OK || errStop != api.OK || counts != want.counts || !sameOutcome(outcome, want.outcome) || !sameState(state, want.state) {
					t.Fatalf("seed %d: %v: Shift(%v, %d) = %+v, %+v, %d, Stop = %+v, %d, want %+v, %+v, %+v", seed, program, events, fuel, outcome, counts, err, state, errStop, want.outcome, want.counts, want.state)
				}
			}
			sum.High += all[last].counts.High
			sum.Ups += all[last].counts.Ups
			sum.Downs += all[last].counts.Downs
			if last > 0 && all[last-1].high[len(all[last-1].high)-1] {
				ends[all[last].outcome.End]++
			}
		}
	}
	for end := api.Halted; end <= api.TrapHeap; end++ {
		if ends[end] < 10 {
			t.Errorf("only %d runs end with %d in the high gear: %v", ends[end], end, ends)
		}
	}
	if sum.High < 10000 || sum.Ups < 1000 || sum.Downs < 1000 {
		t.Errorf("too little in the high gear: %+v", sum)
	}
}
