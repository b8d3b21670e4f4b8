package machine

import (
	"reflect"
	"testing"

	"upshift/api"
)

func lengths(code []stretch) []int {
	var all []int
	for _, s := range code {
		all = append(all, s.steps)
	}
	return all
}

// A stretch goes to the next instruction that turns, that one among it.
func TestStretchesGoToTheTurn(t *testing.T) {
	code := []api.Ins{
		{Op: api.Const, A: 3}, {Op: api.Store}, {Op: api.Load}, {Op: api.Branch, A: 9}, {Op: api.Fun}, {Op: api.Call},
		{Op: api.Pop}, {Op: api.Nil}, {Op: api.Jump, A: 1}, {Op: api.Nil}, {Op: api.Return}, {Op: api.Nil}, {Op: api.Nil},
	}
	want := []int{4, 3, 2, 1, 2, 1, 3, 2, 1, 2, 1, 2, 1}
	if got := lengths(compiled(code)); !reflect.DeepEqual(got, want) {
		t.Errorf("steps = %v, want %v", got, want)
	}
}

// One call of a stretch's function does all of its steps: stack, locals, place, prints and counts.
func TestStretchIsDoneAtOneGo(t *testing.T) {
	p := program(api.Ins{Op: api.Const, A: 8}, api.Ins{Op: api.Const, A: 2}, api.Ins{Op: api.Const, A: 5}, api.Ins{Op: api.Sub},
		api.Ins{Op: api.Dup}, api.Ins{Op: api.Print}, api.Ins{Op: api.Store}, api.Ins{Op: api.Load}, api.Ins{Op: api.Jump, A: 9}, api.Ins{Op: api.Return})
	p[0].Locals = 1
	m := Run(p, 0)
	f := m.frames.Top()
	f.code = compiled(p[0].Code)
	f.code[0].do(m, f)
	if want := Run(p, 9).State(); !reflect.DeepEqual(m.State(), want) {
		t.Errorf("State = %+v, want %+v", m.State(), want)
	}
	if o := m.Outcome(); o.Steps != 9 || len(o.Out) != 1 || o.Out[0] != number(-3) || m.Counts() != (api.Counts{High: 9}) {
		t.Errorf("Outcome = %+v, Counts = %+v", o, m.Counts())
	}
}

// A frame in the high gear that cannot do a whole stretch goes step by step, and counts these too.
func TestStretchThatDoesNotFit(t *testing.T) {
	p := program(api.Ins{Op: api.Nil}, api.Ins{Op: api.Pop}, api.Ins{Op: api.Nil}, api.Ins{Op: api.Pop}, api.Ins{Op: api.Jump})
	up := []api.Event{{Kind: api.Compile}, {Kind: api.Enter}}
	for fuel := range 12 {
		for step := range 12 {
			m := Shift(p, append(up, api.Event{Step: step, Kind: api.Enter}), fuel)
			if m.Outcome().Steps != fuel || m.Counts() != (api.Counts{High: fuel, Ups: 1}) || !reflect.DeepEqual(m.State(), Run(p, fuel).State()) {
				t.Errorf("fuel %d, event at %d: %+v, %+v, %+v", fuel, step, m.Outcome(), m.Counts(), m.State())
			}
		}
	}
}

// A trap within a stretch leaves the frame as in the low gear: the steps ahead of it are done, those behind it are not.
func TestTrapWithinAStretch(t *testing.T) {
	p := program(api.Ins{Op: api.Const, A: 6}, api.Ins{Op: api.Const, A: 7}, api.Ins{Op: api.Print}, api.Ins{Op: api.Const, A: 1}, api.Ins{Op: api.Const},
		api.Ins{Op: api.Div}, api.Ins{Op: api.Print}, api.Ins{Op: api.Jump})
	m := Shift(p, []api.Event{{Kind: api.Compile}, {Kind: api.Enter}}, 99)
	o := m.Outcome()
	if o.End != api.TrapDivide || o.Steps != 6 || len(o.Out) != 1 || m.Counts() != (api.Counts{High: 6, Ups: 1}) {
		t.Errorf("Outcome = %+v, Counts = %+v", o, m.Counts())
	}
	if s := m.State(); s.Frames[0].At != 5 || !reflect.DeepEqual(s.Frames[0].Stack, []api.Value{number(6)}) {
		t.Errorf("State = %+v", s)
	}
}
