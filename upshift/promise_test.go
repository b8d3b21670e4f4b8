package upshift

import (
	"math"
	"reflect"
	"slices"
	"testing"

	"upshift/api"
)

// spareProgram lays a program out with filled spare room behind each list, and gives all of its memory too.
func spareProgram(program []api.Func) (laid, whole []api.Func) {
	whole = slices.Clone(program)
	for fun := range whole {
		room := append(slices.Clone(whole[fun].Code), ins(77, 7), ins(78, 8), ins(79, 9))
		whole[fun].Code = room[:len(room)-3]
	}
	whole = append(whole, fn(5, 6, ins(70)), fn(7, 8, ins(71)))
	return whole[:len(program)], whole
}

// deep copies a program, and the spare room of each of its lists of instructions.
func deep(program []api.Func) []api.Func {
	own := slices.Clone(program)
	for fun := range own {
		code := own[fun].Code
		own[fun].Code = slices.Clone(code[:cap(code)])
	}
	return own
}

func sampleProgram() []api.Func {
	return []api.Func{
		fn(0, 1, ins(api.Fun, 1), ins(api.Const, 7), ins(api.Call, 1), ins(api.Store), ins(api.Load), ins(api.Return)),
		fn(1, 2, ins(api.Load, 0), ins(api.Branch, 0), ins(api.Nil), ins(api.Return)),
	}
}

// wrongPrograms holds one of every error.
func wrongPrograms() [][]api.Func {
	return [][]api.Func{
		plains(9),
		{plain(), fn(0, 9, ins(api.Nil))},
		main1(ins(api.Nil), ins(99)),
		main1(ins(api.Nil)),
		main1(ins(api.Nil), ins(api.Add)),
	}
}

// P2: nothing that is handed in is written into, nor its spare room.
func TestLoadWritesNothing(t *testing.T) {
	for k, program := range append(wrongPrograms(), sampleProgram(), nil) {
		laid, whole := spareProgram(program)
		before := deep(whole)
		Load(laid)
		if !reflect.DeepEqual(deep(whole), before) {
			t.Errorf("program %d: Load changed what was handed in", k)
		}
	}
}

// P2: nothing handed in is kept: what the caller writes later does not come to the code.
func TestLoadKeepsNothing(t *testing.T) {
	program := sampleProgram()
	c, err, _, _ := Load(program)
	if err != api.OK {
		t.Fatalf("Load = %d", err)
	}
	if !reflect.DeepEqual(c.program, sampleProgram()) {
		t.Fatalf("the code is not of the program: %v", c.program)
	}
	for fun := range program {
		for at := range program[fun].Code {
			program[fun].Code[at] = ins(99, -1)
		}
		program[fun] = api.Func{Args: -3, Locals: -3}
	}
	if !reflect.DeepEqual(c.program, sampleProgram()) {
		t.Errorf("the code changed with the caller's lists: %v", c.program)
	}
}

// P2: functions may share one list of instructions, and two codes of one program share nothing.
func TestLoadCodesStandAlone(t *testing.T) {
	shared := plain()
	program := []api.Func{shared, shared}
	first, _, _, _ := Load(program)
	second, _, _, _ := Load(program)
	first.program[0].Code[0] = ins(99)
	for _, f := range []api.Func{first.program[1], second.program[0], second.program[1], shared} {
		if !reflect.DeepEqual(f, plain()) {
			t.Errorf("a list is shared: %v", f)
		}
	}
}

// P2: an answer hangs on the arguments alone, not on what was loaded ahead of it, nor on spare room.
func TestLoadAnswersAlike(t *testing.T) {
	type answer struct {
		err     api.Errno
		fun, at int
		program []api.Func
	}
	ask := func(program []api.Func) answer {
		c, err, fun, at := Load(program)
		if c == nil {
			return answer{err, fun, at, nil}
		}
		return answer{err, fun, at, c.program}
	}
	programs := append(wrongPrograms(), sampleProgram(), plains(8), nil)
	var first []answer
	for _, program := range programs {
		first = append(first, ask(program))
	}
	for k, program := range slices.Backward(programs) {
		laid, _ := spareProgram(program)
		if again := ask(laid); !reflect.DeepEqual(again, first[k]) {
			t.Errorf("program %d: %v, then %v", k, first[k], again)
		}
	}
}

// P1: Load at the ends of all numbers, in every field, and at lists far beyond the bounds.
func TestLoadNeverPanics(t *testing.T) {
	numbers := []int64{math.MinInt64, math.MinInt32, -65, -1, 0, 1, 7, 8, 9, 21, 22, 63, 64, math.MaxInt32, math.MaxUint32, math.MaxInt64}
	for _, a := range numbers {
		for _, b := range numbers {
			one := ins(int(a), b)
			loadSafely(t, main1(one))
			loadSafely(t, main1(append(nils(12), one, one, ins(api.Return))...))
			loadSafely(t, []api.Func{fn(0, 1, ins(api.Nil), ins(api.Return)), fn(int(a), int(b), one)})
			loadSafely(t, []api.Func{fn(int(a), int(b), nils(2)...)})
			for op := range 22 {
				loadSafely(t, main1(ins(op, a), ins(op, b)))
			}
		}
	}
	loadSafely(t, make([]api.Func, 1<<16))
	loadSafely(t, main1(make([]api.Ins, 1<<16)...))
	loadSafely(t, make([]api.Func, 8))
}

// loadSafely holds P1's form: with an error no code, without one no place; and the place is one that there is.
func loadSafely(t *testing.T, program []api.Func) {
	t.Helper()
	defer func() {
		if r := recover(); r != nil {
			t.Errorf("Load(%v) panics: %v", program, r)
		}
	}()
	c, err, fun, at := Load(program)
	switch {
	case err < api.OK || err > api.ErrStack:
		t.Errorf("Load(%v): no error of Load: %d", program, err)
	case (c == nil) != (err != api.OK):
		t.Errorf("Load(%v): error %d, code %v", program, err, c)
	case err == api.OK && (fun != 0 || at != 0):
		t.Errorf("Load(%v): OK at %d, %d", program, fun, at)
	case err == api.ErrSize && at != 0:
		t.Errorf("Load(%v): ErrSize at instruction %d", program, at)
	case err > api.ErrSize && (fun < 0 || fun >= len(program) || at < 0 || at >= len(program[fun].Code)):
		t.Errorf("Load(%v): error %d at %d, %d", program, err, fun, at)
	}
}

// P1: the other calls end and do not panic at the ends of all numbers.
func TestCallsNeverPanic(t *testing.T) {
	programs := [][]api.Func{sampleProgram(), fullProgram(), counter(), depths(25, ins(api.Nil)), main1(ins(api.Nil), ins(api.Len), ins(api.Return))}
	for _, program := range programs {
		c := loaded(t, program...)
		for _, n := range []int{math.MinInt, -1, 0, 1, 2, 8, api.MaxFuel, api.MaxFuel + 1, math.MaxInt} {
			callSafely(t, c, n)
		}
	}
}

func callSafely(t *testing.T, c *Code, n int) {
	t.Helper()
	defer func() {
		if r := recover(); r != nil {
			t.Errorf("a call with %d panics: %v", n, r)
		}
	}()
	c.Headers(n)
	c.Run(n)
	c.Look(n)
	shiftSafely(t, c, nil, n)
	shiftSafely(t, c, script(api.Event{Step: n, Kind: n, N: n}), n)
	for kind := range 6 {
		shiftSafely(t, c, script(compile(0, 0), enter(0), api.Event{Step: n, Kind: kind, N: n}), n)
		shiftSafely(t, c, slices.Repeat(script(api.Event{Step: n, Kind: kind}), 200), n)
	}
}

// shiftSafely holds P1's form: with an error nothing else.
func shiftSafely(t *testing.T, c *Code, events []api.Event, fuel int) {
	t.Helper()
	outcome, counts, err := c.Shift(events, fuel)
	state, errStop := c.Stop(events, fuel)
	switch {
	case errStop != err:
		t.Errorf("Shift(%v, %d): %d, but Stop: %d", events, fuel, err, errStop)
	case err == api.OK && !sameState(state, c.Look(fuel)):
		t.Errorf("Stop(%v, %d) = %+v, want %+v", events, fuel, state, c.Look(fuel))
	case err != api.OK && !sameState(state, api.State{}):
		t.Errorf("Stop(%v, %d) = %+v, %d", events, fuel, state, errStop)
	case err != api.OK && err != api.ErrEvent:
		t.Errorf("Shift(%v, %d): no error of Shift: %d", events, fuel, err)
	case err == api.OK && !sameOutcome(outcome, c.Run(fuel)):
		t.Errorf("Shift(%v, %d) = %+v, want %+v", events, fuel, outcome, c.Run(fuel))
	case err != api.OK && (!sameOutcome(outcome, api.Outcome{}) || counts != (api.Counts{})):
		t.Errorf("Shift(%v, %d) = %+v, %+v, %d", events, fuel, outcome, counts, err)
	}
}
