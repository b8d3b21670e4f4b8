package machine

import (
	"reflect"
	"testing"

	"upshift/api"
)

func program(code ...api.Ins) []api.Func { return []api.Func{{Code: code}} }

// spoil writes into every list of values that a machine tells, spare room too.
func spoil(o api.Outcome, s api.State) {
	lists := append([][]api.Value{o.Out}, s.Arrays...)
	for _, f := range s.Frames {
		lists = append(lists, f.Locals, f.Stack)
	}
	for _, list := range lists {
		list = list[:cap(list)]
		for i := range list {
			list[i] = number(77)
		}
	}
}

// What a machine tells is no part of it: told again it is the same.
func TestToldAgain(t *testing.T) {
	two := program(api.Ins{Op: api.Const, A: 2}, api.Ins{Op: api.Dup}, api.Ins{Op: api.Print}, api.Ins{Op: api.Dup}, api.Ins{Op: api.New}, api.Ins{Op: api.Return})
	two[0].Locals = 3
	m := Run(two, 5)
	o, s := m.Outcome(), m.State()
	if len(o.Out) != 1 || len(s.Arrays) != 1 || len(s.Arrays[0]) != 2 || len(s.Frames) != 1 || len(s.Frames[0].Locals) != 3 || len(s.Frames[0].Stack) != 2 {
		t.Fatalf("%+v, %+v", o, s)
	}
	spoil(o, s)
	fresh := Run(two, 5)
	if again, want := m.Outcome(), fresh.Outcome(); !reflect.DeepEqual(again, want) {
		t.Errorf("Outcome = %+v, want %+v", again, want)
	}
	if again, want := m.State(), fresh.State(); !reflect.DeepEqual(again, want) {
		t.Errorf("State = %+v, want %+v", again, want)
	}
}

// A trap is caught where the run began, with all that was done ahead of it still told.
func TestTrapIsCaught(t *testing.T) {
	m := Run(program(api.Ins{Op: api.Const, A: 5}, api.Ins{Op: api.Print}, api.Ins{Op: api.Nil}, api.Ins{Op: api.New}, api.Ins{Op: api.Return}), 99)
	o := m.Outcome()
	if o.End != api.TrapType || o.Steps != 4 || o.Gives != (api.Value{}) || len(o.Out) != 1 || o.Out[0] != number(5) {
		t.Errorf("Outcome = %+v", o)
	}
	if s := m.State(); len(s.Frames) != 1 || s.Frames[0].At != 3 || len(s.Frames[0].Stack) != 0 {
		t.Errorf("State = %+v", s)
	}
}

// A panic that is no trap is no end of a run: this program would not be loaded.
func TestOtherPanicsGoOn(t *testing.T) {
	defer func() {
		if recover() == nil {
			t.Error("a fault was taken for an end of the run")
		}
	}()
	Run(program(api.Ins{Op: api.Pop}), 9)
}
