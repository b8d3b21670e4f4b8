package upshift

import (
	"math"
	"slices"
	"testing"

	"upshift/api"
)

func frame(fun, at int, locals, stack []api.Value) api.Frame {
	return api.Frame{Fun: fun, At: at, Locals: locals, Stack: stack}
}

func stands(frames ...api.Frame) api.State { return api.State{Frames: frames} }

// Examples 1, 4 and 5 of the document, as far as they speak of Look.
func TestLookExamples(t *testing.T) {
	first := loaded(t, main1(ins(api.Const, 2), ins(api.Const, 3), ins(api.Sub), ins(api.Print), ins(api.Nil), ins(api.Return))...)
	wantState(t, "1", first, 3, stands(frame(0, 3, nil, vals(num(-1)))))
	wantState(t, "1", first, 6, stands())
	wantState(t, "4", loaded(t, squares()...), 4, stands(frame(0, 3, nil, nil), frame(1, 1, vals(num(7)), vals(num(7)))))
	wantState(t, "5", loaded(t, main1(ins(api.Const, 1), ins(api.Const), ins(api.Div), ins(api.Return))...), 9, stands(frame(0, 2, nil, nil)))
}

// P6: a run that is stopped at each of its steps: calls, arrays, jumps and locals.
func TestLookAtEachStep(t *testing.T) {
	c := loaded(t,
		fn(0, 1, ins(api.Const, 2), ins(api.New), ins(api.Store), ins(api.Fun, 1), ins(api.Load), ins(api.Const, 5), ins(api.Call, 2),
			ins(api.Branch, 3), ins(api.Nil), ins(api.Return)),
		fn(2, 3, ins(api.Load, 0), ins(api.Const, 1), ins(api.Load, 1), ins(api.Set), ins(api.Jump, 6), ins(api.Pop),
			ins(api.Load, 0), ins(api.Dup), ins(api.Store, 2), ins(api.Len), ins(api.Return)),
	)
	null, a0, f1 := api.Value{}, arr(0), fun(1)
	new1 := [][]api.Value{vals(null, null)}
	set1 := [][]api.Value{vals(null, num(5))}
	main := func(at int, stack ...api.Value) api.Frame { return frame(0, at, vals(a0), stack) }
	called := func(at int, local api.Value, stack ...api.Value) []api.Frame {
		return []api.Frame{main(7), frame(1, at, vals(a0, num(5), local), stack)}
	}
	for fuel, want := range []api.State{
		{Frames: []api.Frame{frame(0, 0, vals(null), nil)}},
		{Frames: []api.Frame{frame(0, 1, vals(null), vals(num(2)))}},
		{Frames: []api.Frame{frame(0, 2, vals(null), vals(a0))}, Arrays: new1},
		{Frames: []api.Frame{main(3)}, Arrays: new1},
		{Frames: []api.Frame{main(4, f1)}, Arrays: new1},
		{Frames: []api.Frame{main(5, f1, a0)}, Arrays: new1},
		{Frames: []api.Frame{main(6, f1, a0, num(5))}, Arrays: new1},
		{Frames: called(0, null), Arrays: new1},
		{Frames: called(1, null, a0), Arrays: new1},
		{Frames: called(2, null, a0, num(1)), Arrays: new1},
		{Frames: called(3, null, a0, num(1), num(5)), Arrays: new1},
		{Frames: called(4, null), Arrays: set1},
		{Frames: called(6, null), Arrays: set1},
		{Frames: called(7, null, a0), Arrays: set1},
		{Frames: called(8, null, a0, a0), Arrays: set1},
		{Frames: called(9, a0, a0), Arrays: set1},
		{Frames: called(10, a0, num(2)), Arrays: set1},
		{Frames: []api.Frame{main(7, num(2))}, Arrays: set1},
		{Frames: []api.Frame{main(8)}, Arrays: set1},
		{Frames: []api.Frame{main(9, null)}, Arrays: set1},
		{Arrays: set1},
		{Arrays: set1},
	} {
		wantState(t, "each step", c, fuel, want)
	}
}

// P6: the fuel's bounds are those of Run.
func TestLookFuel(t *testing.T) {
	c := loaded(t, counter()...)
	for _, fuel := range []int{math.MinInt, -1, 0} {
		wantState(t, "no fuel", c, fuel, stands(frame(0, 0, vals(api.Value{}), nil)))
	}
	wantState(t, "one less than the bound", c, 99999, stands(frame(0, 4, vals(num(19999)), vals(num(19999), num(1)))))
	for _, fuel := range []int{100000, 100001, 100002, 1 << 40, math.MaxInt} {
		wantState(t, "at the bound and above", c, fuel, stands(frame(0, 5, vals(num(19999)), vals(num(20000)))))
	}
}

// P6: of a Branch that goes there and of one that does not.
func TestLookBehindBranch(t *testing.T) {
	for _, v := range vals(api.Value{}, num(0), num(3), fun(0)) {
		code := joined([]api.Ins{ins(api.Const, 9)}, pushed(v), []api.Ins{ins(api.Branch, 4), ins(api.Return), ins(api.Return)})
		at := 3
		if v == num(0) || v == (api.Value{}) {
			at = 4
		}
		wantState(t, "Branch", loaded(t, main1(code...)...), 3, stands(frame(0, at, nil, vals(num(9)))))
	}
}

// wantTrap runs an instruction on some values, with others below them: it must be trapped at that instruction, with just those values popped; in both gears, and in stretches from each instruction on.
func wantTrap(t *testing.T, end int, op api.Ins, values ...api.Value) {
	t.Helper()
	below := vals(num(41), num(42))
	code := joined([]api.Ins{ins(api.Const, 40), ins(api.Store, 1)}, pushed(below...), pushed(values...),
		[]api.Ins{op, ins(api.Nil), ins(api.Return)})
	at := len(code) - 3
	program := []api.Func{fn(0, 2, code...), plain(), fn(1, 1, ins(api.Nil), ins(api.Return))}
	c := loaded(t, program...)
	want := stands(frame(0, at, vals(api.Value{}, num(40)), below))
	for _, v := range values {
		if v.Kind == api.IsArray {
			want.Arrays = append(want.Arrays, vals(api.Value{}, api.Value{}))
		}
	}
	wantRun(t, "trapped", c, 99, ended(end, at+1))
	for _, fuel := range []int{at + 1, at + 2, 99, math.MaxInt} {
		wantState(t, "trapped", c, fuel, want)
	}
	if got := c.Look(at); len(got.Frames) != 1 || len(got.Frames[0].Stack) != len(below)+len(values) || got.Frames[0].At != at {
		t.Errorf("ahead of the trap: %+v", got)
	}
	program = headed(program)
	for cut := range at + 1 {
		wantTrace(t, "trapped", program, append(wholly(program), enter(cut)), at+2)
	}
}

// P6: every trap of the instructions on numbers and arrays, at each of the kinds.
func TestLookBehindTraps(t *testing.T) {
	null, n, f, a := api.Value{}, num(1), fun(0), arr(0)
	others := vals(null, f, a)
	for _, op := range []int{api.Add, api.Sub, api.Mul, api.Div, api.Less} {
		for _, v := range others {
			wantTrap(t, api.TrapType, ins(op), v, n)
			wantTrap(t, api.TrapType, ins(op), n, v)
			wantTrap(t, api.TrapType, ins(op), v, num(0))
			for _, w := range others {
				wantTrap(t, api.TrapType, ins(op), v, w)
			}
		}
	}
	for _, v := range vals(num(0), n, num(least), num(most)) {
		wantTrap(t, api.TrapDivide, ins(api.Div), v, num(0))
	}
	for _, v := range others {
		wantTrap(t, api.TrapType, ins(api.New), v)
	}
	for _, v := range vals(null, f, n, num(0)) {
		wantTrap(t, api.TrapType, ins(api.Len), v)
	}
	for _, v := range vals(num(-1), num(least)) {
		wantTrap(t, api.TrapIndex, ins(api.New), v)
	}
	for _, v := range vals(num(201), num(most)) {
		wantTrap(t, api.TrapHeap, ins(api.New), v)
	}
}

// P6: every trap of Get and Set.
func TestLookBehindTrapsOfCells(t *testing.T) {
	null, n, f, a := api.Value{}, num(1), fun(0), arr(0)
	wantBoth := func(end int, values ...api.Value) {
		t.Helper()
		wantTrap(t, end, ins(api.Get), values...)
		for _, v := range vals(null, n, f, a) {
			wantTrap(t, end, ins(api.Set), append(slices.Clone(values), v)...)
		}
	}
	for _, v := range vals(null, f, n, num(0)) {
		for _, i := range vals(null, f, a, num(0), num(-1), num(9)) {
			wantBoth(api.TrapType, v, i)
		}
	}
	for _, i := range vals(null, f, a) {
		wantBoth(api.TrapType, a, i)
	}
	for _, i := range vals(num(2), num(3), num(-1), num(least), num(most), num(1<<32)) {
		wantBoth(api.TrapIndex, a, i)
	}
}

// P6: every trap of Call, but for TrapDeep: what is no function, and too few and too many arguments.
func TestLookBehindTrapsOfCalls(t *testing.T) {
	null, n, a := api.Value{}, num(1), arr(0)
	for _, v := range vals(null, n, num(0), a) {
		wantTrap(t, api.TrapCall, ins(api.Call, 0), v)
		wantTrap(t, api.TrapCall, ins(api.Call, 1), v, n)
		wantTrap(t, api.TrapCall, ins(api.Call, 3), v, n, fun(0), fun(1))
	}
	wantTrap(t, api.TrapCall, ins(api.Call, 1), fun(1), n)
	wantTrap(t, api.TrapCall, ins(api.Call, 0), fun(2))
	wantTrap(t, api.TrapCall, ins(api.Call, 2), fun(2), n, null)
	wantTrap(t, api.TrapCall, ins(api.Call, 8), fun(2), n, n, n, n, n, n, n, n)
	wantTrap(t, api.TrapCall, ins(api.Call, 1), n, fun(2))
}

// P6: behind TrapDeep there are 24 frames, each but the last one behind its Call, the last one at it.
func TestLookBehindTrapDeep(t *testing.T) {
	c := loaded(t,
		fn(0, 0, ins(api.Const, 8), ins(api.Fun, 1), ins(api.Const, 7), ins(api.Call, 1), ins(api.Return)),
		fn(1, 2, ins(api.Const, 9), ins(api.Fun, 1), ins(api.Load, 0), ins(api.Call, 1), ins(api.Return)))
	want := []api.Frame{frame(0, 4, nil, vals(num(8)))}
	for range 22 {
		want = append(want, frame(1, 4, vals(num(7), api.Value{}), vals(num(9))))
	}
	want = append(want, frame(1, 3, vals(num(7), api.Value{}), vals(num(9))))
	wantRun(t, "TrapDeep", c, 999, ended(api.TrapDeep, 96))
	wantState(t, "TrapDeep", c, 96, stands(want...))
	wantState(t, "TrapDeep", c, 999, stands(want...))
	want[23].Stack = vals(num(9), fun(1), num(7))
	wantState(t, "ahead of TrapDeep", c, 95, stands(want...))
}

// P6: a trap of a called frame leaves the frames below it behind their Calls.
func TestLookBehindTrapOfACall(t *testing.T) {
	c := loaded(t,
		fn(0, 1, ins(api.Const, 4), ins(api.Store), ins(api.Const, 8), ins(api.Fun, 1), ins(api.Call), ins(api.Return)),
		fn(0, 0, ins(api.Const, 3), ins(api.Nil), ins(api.Len), ins(api.Return)))
	wantState(t, "in a call", c, 99, stands(frame(0, 5, vals(num(4)), vals(num(8))), frame(1, 2, nil, vals(num(3)))))
}

// P6: arrays behind a trap and behind a Return: those that there were, also those without cells.
func TestLookAtArrays(t *testing.T) {
	start := []api.Ins{
		ins(api.Const), ins(api.New), ins(api.Pop), ins(api.Const, 2), ins(api.New), ins(api.Dup), ins(api.Const, 1), ins(api.Const, 6), ins(api.Set),
		ins(api.Pop), ins(api.Const, 1), ins(api.New), ins(api.Pop),
	}
	want := [][]api.Value{nil, vals(api.Value{}, num(6)), vals(api.Value{})}
	c := loaded(t, main1(joined(start, nils(1), []api.Ins{ins(api.Return)})...)...)
	wantState(t, "halted", c, 99, api.State{Arrays: want})
	c = loaded(t, main1(joined(start, []api.Ins{ins(api.Const, 198), ins(api.New), ins(api.Return)})...)...)
	wantState(t, "no room", c, 99, api.State{Frames: []api.Frame{frame(0, 14, nil, nil)}, Arrays: want})

	endless := loaded(t, main1(ins(api.Const), ins(api.New), ins(api.Pop), ins(api.Jump))...)
	want = make([][]api.Value, 25000)
	wantState(t, "without cells", endless, math.MaxInt, api.State{Frames: []api.Frame{frame(0, 0, nil, nil)}, Arrays: want})
}

// P6: behind a Return what the frame had left on its stack is gone with it.
func TestLookBehindReturn(t *testing.T) {
	c := loaded(t,
		fn(0, 0, ins(api.Const, 8), ins(api.Fun, 1), ins(api.Call), ins(api.Return)),
		fn(0, 0, ins(api.Const, 3), ins(api.Const, 4), ins(api.Return)))
	wantState(t, "behind Return", c, 6, stands(frame(0, 3, nil, vals(num(8), num(4)))))
	wantRun(t, "behind Return", c, 99, halted(7, num(4)))
	wantState(t, "halted", c, 7, stands())
}
