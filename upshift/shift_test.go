package upshift

import (
	"math"
	"slices"
	"testing"

	"upshift/api"
)

// wantShift holds Shift's counts against these, its outcome against that of Run, and how such a run stands against Look.
func wantShift(t *testing.T, name string, c *Code, events []api.Event, fuel int, want api.Counts) {
	t.Helper()
	outcome, counts, err := c.Shift(events, fuel)
	if err != api.OK || counts != want || !sameOutcome(outcome, c.Run(fuel)) {
		t.Errorf("%s: Shift(%v, %d) = %+v, %+v, %d, want %+v, %+v", name, events, fuel, outcome, counts, err, c.Run(fuel), want)
	}
	wantStop(t, name, c, events, fuel, c.Look(fuel))
}

// wantTrace holds Shift and Stop against the model at each fuel up to this one.
func wantTrace(t *testing.T, name string, program []api.Func, events []api.Event, fuel int) {
	t.Helper()
	c := loaded(t, program...)
	all := trace(program, events, fuel)
	for fuel := range fuel + 1 {
		want := all[min(fuel, len(all)-1)]
		outcome, counts, err := c.Shift(events, fuel)
		if err != api.OK || counts != want.counts || !sameOutcome(outcome, want.outcome) {
			t.Fatalf("%s: %v: Shift(%v, %d) = %+v, %+v, %d, want %+v, %+v", name, program, events, fuel, outcome, counts, err, want.outcome, want.counts)
		}
		if wantStop(t, name, c, events, fuel, want.state); t.Failed() {
			t.Fatalf("%s: %v", name, program)
		}
	}
}

// headed makes instruction 0 of function 0 a head, by a Jump that nothing comes to: Enter at step 0 finds it.
func headed(program []api.Func) []api.Func {
	own := slices.Clone(program)
	own[0].Code = append(slices.Clone(own[0].Code), ins(api.Jump, 0))
	return own
}

// wholly is the events by which a headed program is in the high gear from its first step on.
func wholly(program []api.Func) []api.Event {
	return append(compileAll(program), enter(0))
}

func compileAll(program []api.Func) []api.Event {
	var events []api.Event
	for fun := range program {
		events = append(events, compile(0, fun))
	}
	return events
}

// wantHigh runs a program in the high gear alone: the outcome is that of the low one.
func wantHigh(t *testing.T, name string, c *Code, fuel int, want api.Outcome) {
	t.Helper()
	if len(c.program[0].Code) == api.MaxCode {
		return
	}
	program := headed(c.program)
	outcome, counts, err := loaded(t, program...).Shift(wholly(program), fuel)
	if err != api.OK || !sameOutcome(outcome, want) || counts != (api.Counts{High: want.Steps, Ups: 1}) {
		t.Errorf("%s: in the high gear: Shift(%d) = %+v, %+v, %d, want %+v", name, fuel, outcome, counts, err, want)
	}
}

// Examples 3 and 4 of the document.
func TestShiftExamples(t *testing.T) {
	third, fourth := loaded(t, countdown()), loaded(t, squares()...)
	wantShift(t, "3", third, script(compile(0, 0), enter(9)), 100, api.Counts{High: 18, Ups: 1})
	wantShift(t, "3", third, script(compile(0, 0), enter(9), exit(12)), 100, api.Counts{High: 3, Ups: 1, Downs: 1})
	wantShift(t, "3", third, script(compile(0, 0), enter(10)), 100, api.Counts{})
	wantShift(t, "4", fourth, script(compile(0, 1)), 100, api.Counts{High: 4})
	if o, _, _ := third.Shift(script(compile(0, 0), enter(9)), 100); !sameOutcome(o, halted(27, api.Value{})) {
		t.Errorf("3: %+v", o)
	}
	if o, _, _ := fourth.Shift(script(compile(0, 1)), 100); !sameOutcome(o, halted(8, num(49))) {
		t.Errorf("4: %+v", o)
	}
}

// wrongEvents holds each way to get ErrEvent for a program of two functions.
func wrongEvents() [][]api.Event {
	late := slices.Repeat(script(exit(5)), 199)
	return [][]api.Event{
		slices.Repeat(script(exit(0)), 201),
		slices.Repeat(script(exit(0)), 5000),
		make([]api.Event, 201),
		script(exit(-1)),
		script(enter(math.MinInt)),
		script(exit(1), exit(0)),
		script(exit(1), enter(2), compile(1, 0)),
		script(compile(math.MaxInt, 0), exit(math.MaxInt-1)),
		script(exit(3), exit(-1)),
		script(api.Event{}),
		script(api.Event{Kind: 5}),
		script(api.Event{Kind: -1}),
		script(api.Event{Kind: math.MinInt}),
		script(api.Event{Kind: math.MaxInt}),
		script(api.Event{Kind: 1 << 32}),
		script(api.Event{Kind: 1<<32 + 1}),
		script(compile(0, 2)),
		script(compile(0, 8)),
		script(compile(0, -1)),
		script(compile(0, math.MinInt)),
		script(compile(0, math.MaxInt)),
		script(compile(0, 1<<32)),
		script(drop(0, 2)),
		script(drop(0, -1)),
		script(drop(0, math.MinInt)),
		script(drop(0, math.MaxInt)),
		script(drop(1<<40, 2)),
		append(slices.Clone(late), exit(4)),
		append(slices.Clone(late), api.Event{Step: 5, Kind: 5}),
		append(slices.Clone(late), compile(5, 2)),
	}
}

// P7 and P1: each way to get ErrEvent, at any fuel, with nothing beside it.
func TestShiftErrEvent(t *testing.T) {
	c := loaded(t, squares()...)
	for k, events := range wrongEvents() {
		for _, fuel := range []int{math.MinInt, 0, 3, 100, math.MaxInt} {
			outcome, counts, err := c.Shift(events, fuel)
			if err != api.ErrEvent || outcome.End != 0 || outcome.Steps != 0 || outcome.Gives != (api.Value{}) || len(outcome.Out) != 0 || counts != (api.Counts{}) {
				t.Errorf("list %d: Shift = %+v, %+v, %d", k, outcome, counts, err)
			}
		}
	}
}

// P7: events that may be, at the edges of those that may not.
func TestShiftEventsThatMayBe(t *testing.T) {
	c := loaded(t, squares()...)
	none := api.Counts{}
	wantShift(t, "none", c, nil, 99, none)
	wantShift(t, "none", c, script(), 99, none)
	wantShift(t, "200", c, slices.Repeat(script(exit(0)), 200), 99, none)
	wantShift(t, "of one step", c, script(exit(0), exit(0), exit(7), exit(7)), 99, none)
	wantShift(t, "far off", c, script(compile(math.MaxInt, 1), enter(math.MaxInt)), math.MaxInt, none)
	wantShift(t, "the last function", c, script(drop(0, 1), compile(0, 1), drop(0, 0), compile(0, 0)), 99, api.Counts{High: 4})
	for _, n := range []int{math.MinInt, -1, 2, 8, 1 << 40, math.MaxInt} {
		one := script(compile(0, 1), api.Event{Step: 4, Kind: api.Enter, N: n}, api.Event{Step: 5, Kind: api.Exit, N: n})
		wantShift(t, "N that does not matter", c, one, 99, api.Counts{High: 2, Downs: 1})
	}
	eight := loaded(t, append([]api.Func{fn(0, 0, ins(api.Fun, 7), ins(api.Call), ins(api.Return))}, plains(7)...)...)
	wantShift(t, "function 7", eight, script(compile(0, 7)), 99, api.Counts{High: 2})
	wantShift(t, "not function 7", eight, script(compile(0, 6)), 99, none)
}

// P7: going up: the frame at hand alone, from the low gear, with code, at a head.
func TestShiftUps(t *testing.T) {
	c := loaded(t, countdown())
	up := compile(0, 0)
	wantShift(t, "compiled alone", c, script(up), 99, api.Counts{})
	wantShift(t, "not compiled", c, script(enter(2), enter(9)), 99, api.Counts{})
	wantShift(t, "compiled behind it", c, script(enter(9), compile(9, 0)), 99, api.Counts{})
	wantShift(t, "compiled ahead of it", c, script(compile(9, 0), enter(9)), 99, api.Counts{High: 18, Ups: 1})
	wantShift(t, "dropped ahead of it", c, script(up, drop(9, 0), enter(9)), 99, api.Counts{})
	wantShift(t, "dropped and compiled again", c, script(up, drop(8, 0), compile(9, 0), enter(9)), 99, api.Counts{High: 18, Ups: 1})
	wantShift(t, "up twice", c, script(up, enter(2), enter(2), enter(9), enter(16)), 99, api.Counts{High: 25, Ups: 1})
	for step := range 27 {
		if step != 2 && step != 9 && step != 16 && step != 23 {
			wantShift(t, "not at a head", c, script(up, enter(step)), 99, api.Counts{})
		}
	}
	wantShift(t, "the last round", c, script(up, enter(23)), 99, api.Counts{High: 4, Ups: 1})

	below := loaded(t,
		fn(0, 0, ins(api.Fun, 1), ins(api.Call), ins(api.Branch, 0), ins(api.Nil), ins(api.Return)),
		fn(0, 0, ins(api.Jump, 1), ins(api.Nil), ins(api.Return), ins(api.Jump, 1)))
	wantShift(t, "the one at hand is not compiled", below, script(up, enter(3)), 20, api.Counts{})
	wantShift(t, "the one at hand", below, script(compile(0, 1), drop(1, 1), compile(2, 1), enter(2), enter(3)), 5, api.Counts{High: 2, Ups: 1})
	wantShift(t, "the one below stays", below, script(up, enter(0), compile(3, 1), enter(3)), 6, api.Counts{High: 5, Ups: 2})
}

// P7: going down: by Exit each frame, by Drop each one of that function; of those in the low gear none.
func TestShiftDowns(t *testing.T) {
	c := loaded(t, countdown())
	up, in := compile(0, 0), enter(2)
	wantShift(t, "Exit in the low gear", c, script(up, exit(1), exit(26)), 99, api.Counts{})
	wantShift(t, "Exit twice", c, script(up, in, exit(5), exit(5), exit(6)), 99, api.Counts{High: 3, Ups: 1, Downs: 1})
	wantShift(t, "Exit leaves the code", c, script(up, in, exit(5), enter(9), exit(10)), 99, api.Counts{High: 4, Ups: 2, Downs: 2})
	wantShift(t, "Drop", c, script(up, in, drop(5, 0), drop(5, 0), enter(9)), 99, api.Counts{High: 3, Ups: 1, Downs: 1})
	wantShift(t, "Drop in the low gear", c, script(up, drop(5, 0), drop(9, 0)), 99, api.Counts{})
	wantShift(t, "Compile does not lift", c, script(up, in, drop(5, 0), compile(5, 0)), 99, api.Counts{High: 3, Ups: 1, Downs: 1})
	wantShift(t, "Compile again", c, script(up, in, compile(5, 0), compile(6, 0)), 99, api.Counts{High: 25, Ups: 1})
	wantShift(t, "up, down and up at one step", c, script(up, in, exit(2), enter(2)), 99, api.Counts{High: 25, Ups: 2, Downs: 1})
	wantShift(t, "at the same step down and up", c, script(up, exit(2), in), 99, api.Counts{High: 25, Ups: 1})
}

// P7: several frames at once: from step 24 to 25 four frames of function 1 are above one of function 0.
func TestShiftManyFrames(t *testing.T) {
	c := loaded(t, headed(depths(5, ins(api.Const, 6)))...)
	steps := 4 + 3*8 + 4
	zero, one := compile(0, 0), compile(0, 1)
	wantRun(t, "many frames", c, 99, halted(steps, num(6)))
	wantShift(t, "all high", c, script(zero, one, enter(0)), 99, api.Counts{High: steps, Ups: 1})
	wantShift(t, "those of calls", c, script(zero, one), 99, api.Counts{High: steps - 4})
	wantShift(t, "the one below them", c, script(zero, enter(0)), 99, api.Counts{High: 4, Ups: 1})
	wantShift(t, "Exit of all", c, script(zero, one, enter(0), exit(25)), 99, api.Counts{High: 25, Ups: 1, Downs: 5})
	wantShift(t, "Drop of four", c, script(zero, one, enter(0), drop(25, 1)), 99, api.Counts{High: 26, Ups: 1, Downs: 4})
	wantShift(t, "Drop of one", c, script(zero, one, enter(0), drop(25, 0)), 99, api.Counts{High: steps - 1, Ups: 1, Downs: 1})
	wantShift(t, "Drop of two, then calls in the low gear", c, script(one, drop(15, 1)), 99, api.Counts{High: 12, Downs: 2})
	wantShift(t, "Exit of two, then calls in the high gear", c, script(one, exit(15)), 99, api.Counts{High: 12 + 7 + 4 + 1, Downs: 2})
	wantShift(t, "Compile between the calls", c, script(compile(15, 1)), 99, api.Counts{High: 7 + 4 + 1})
	wantShift(t, "Compile at the Call", c, script(compile(16, 1)), 99, api.Counts{High: 7 + 4 + 1})
	wantShift(t, "Compile behind the Call", c, script(compile(17, 1)), 99, api.Counts{High: 4})
}

// P7: a step that is trapped counts as one of its frame's gear.
func TestShiftCountsTrappedSteps(t *testing.T) {
	trapped := func(code ...api.Ins) *Code {
		return loaded(t, headed([]api.Func{fn(0, 0, ins(api.Fun, 1), ins(api.Call), ins(api.Return)), fn(0, 0, code...)})...)
	}
	c := trapped(ins(api.Nil), ins(api.Len), ins(api.Return))
	wantRun(t, "trapped", c, 99, ended(api.TrapType, 4))
	wantShift(t, "high", c, script(compile(0, 1)), 99, api.Counts{High: 2})
	wantShift(t, "low above a high one", c, script(compile(0, 0), enter(0)), 99, api.Counts{High: 2, Ups: 1})
	wantShift(t, "down ahead of it", c, script(compile(0, 1), exit(3)), 99, api.Counts{High: 1, Downs: 1})
	wantShift(t, "starved ahead of it", c, script(compile(0, 1)), 3, api.Counts{High: 1})
	wantShift(t, "down behind it", c, script(compile(0, 1), exit(4)), 99, api.Counts{High: 2})
	c = trapped(ins(api.Nil), ins(api.Call), ins(api.Return))
	wantShift(t, "a Call", c, script(compile(0, 1)), 99, api.Counts{High: 2})
	c = trapped(ins(api.Fun, 1), ins(api.Call), ins(api.Return))
	wantRun(t, "too deep", c, 99, ended(api.TrapDeep, 48))
	wantShift(t, "too deep", c, script(compile(0, 1)), 99, api.Counts{High: 46})
	wantShift(t, "too deep", c, script(compile(0, 1), exit(47)), 99, api.Counts{High: 45, Downs: 23})
}

// P7: which events come: those of the step that there is no fuel for do, those behind the last step do not.
func TestShiftEventsAtTheEnd(t *testing.T) {
	c := loaded(t, countdown())
	up := compile(0, 0)
	wantShift(t, "at the last step's end", c, script(up, enter(9)), 9, api.Counts{Ups: 1})
	wantShift(t, "at the last step's end", c, script(up, enter(9), exit(9), enter(9)), 9, api.Counts{Ups: 2, Downs: 1})
	wantShift(t, "one step further", c, script(up, enter(9), exit(10)), 9, api.Counts{Ups: 1})
	wantShift(t, "behind the fuel", c, script(up, enter(9)), 8, api.Counts{})
	wantShift(t, "Starved at 26", c, script(up, enter(2), exit(26)), 26, api.Counts{High: 24, Ups: 1, Downs: 1})
	for _, fuel := range []int{27, 28, 99, math.MaxInt} {
		wantShift(t, "Halted at 27", c, script(up, enter(2), exit(27), exit(28)), fuel, api.Counts{High: 25, Ups: 1})
	}
	endless := loaded(t, main1(ins(api.Jump))...)
	for _, fuel := range []int{math.MinInt, -1, 0} {
		wantShift(t, "no fuel", endless, script(up, enter(0), exit(0), enter(0), exit(1)), fuel, api.Counts{Ups: 2, Downs: 1})
	}
	wantShift(t, "all fuel but one", endless, script(up, enter(0), exit(100000)), 99999, api.Counts{High: 99999, Ups: 1})
	for _, fuel := range []int{100000, 100001, math.MaxInt} {
		wantShift(t, "all fuel", endless, script(up, enter(0), exit(100000)), fuel, api.Counts{High: 100000, Ups: 1, Downs: 1})
		wantShift(t, "beyond all fuel", endless, script(up, enter(0), exit(100001)), fuel, api.Counts{High: 100000, Ups: 1})
	}
	wantShift(t, "down at the last step", endless, script(up, enter(0), exit(99999)), math.MaxInt, api.Counts{High: 99999, Ups: 1, Downs: 1})
}

// P7: heads are those that Headers tells, also of a Jump that nothing comes to; a Jump ahead makes none.
func TestShiftHeads(t *testing.T) {
	c := loaded(t, fn(0, 0, ins(api.Nil), ins(api.Branch, 3), ins(api.Jump, 3), ins(api.Nil), ins(api.Return), ins(api.Branch, 4), ins(api.Jump, 6)))
	if got := c.Headers(0); !slices.Equal(got, []int{4, 6}) {
		t.Fatalf("Headers = %v", got)
	}
	for step, want := range []api.Counts{{}, {}, {}, {High: 1, Ups: 1}} {
		wantShift(t, "heads", c, script(compile(0, 0), enter(step)), 99, want)
	}
}

// P7: what is made of a function is made of all of it, also of what nothing comes to: whatever stands there may be without end or value.
func TestShiftCompilesDeadCode(t *testing.T) {
	dead := [][]api.Ins{
		{ins(api.Add)}, {ins(api.Pop), ins(api.Pop)}, {ins(api.Set), ins(api.Call, 8)}, {ins(api.Dup), ins(api.Store)}, nils(40), {ins(api.Branch, 0)},
		{ins(api.Const, 1), ins(api.Add), ins(api.Jump)}, {ins(api.Return), ins(api.Get), ins(api.New), ins(api.Len), ins(api.Print), ins(api.Less), ins(api.Equal)},
	}
	for _, code := range dead {
		c := loaded(t, fn(0, 0, ins(api.Fun, 1), ins(api.Call), ins(api.Return)), fn(0, 1, joined(plain().Code, code)...))
		wantShift(t, "dead code", c, script(compile(0, 1), compile(0, 0)), 99, api.Counts{High: 2})
	}
}

// mixed: function 1 is one stretch of every instruction that is straight; called the second time it is trapped in the midst of it, by the 64th step.
func mixed() []api.Func {
	return headed([]api.Func{
		fn(0, 1, ins(api.Const, 1), ins(api.Store), ins(api.Fun, 1), ins(api.Load), ins(api.Call, 1), ins(api.Print),
			ins(api.Load), ins(api.Const, 1), ins(api.Sub), ins(api.Store), ins(api.Jump, 2)),
		fn(1, 3, ins(api.Const, 4), ins(api.Dup), ins(api.Mul), ins(api.Store, 1), ins(api.Const, 2), ins(api.New), ins(api.Store, 2),
			ins(api.Load, 2), ins(api.Const, 1), ins(api.Load, 1), ins(api.Set), ins(api.Load, 2), ins(api.Len),
			ins(api.Load, 2), ins(api.Const, 1), ins(api.Get), ins(api.Less), ins(api.Print),
			ins(api.Load, 1), ins(api.Const, 9), ins(api.Load), ins(api.Div), ins(api.Add), ins(api.Fun, 1), ins(api.Nil), ins(api.Equal), ins(api.Pop),
			ins(api.Return)),
	})
}

// P7: fuel that ends at each step, and an event of each kind at each step, within stretches and between them.
func TestShiftWithinAStretch(t *testing.T) {
	program := mixed()
	last := loaded(t, program...).Run(999)
	if !sameOutcome(last, ended(api.TrapDivide, 64, num(1), num(25), num(1))) {
		t.Fatalf("Run = %+v", last)
	}
	for step := range last.Steps + 1 {
		for _, e := range script(compile(step, 0), drop(step, 0), drop(step, 1), enter(step), exit(step)) {
			wantTrace(t, "both high", program, append(wholly(program), e), last.Steps+1)
		}
		wantTrace(t, "called", program, script(compile(0, 1), compile(step, 0), enter(step)), last.Steps+1)
		wantTrace(t, "called then on", program, script(compile(step, 1)), last.Steps+1)
	}
}

// P7: stored locals and values below, at which code made of a stretch could go wrong: a local that is read ahead of its Store, and values that are used twice.
func TestShiftOrderWithinAStretch(t *testing.T) {
	load, store, con := ins(api.Load), ins(api.Store), func(n int64) api.Ins { return ins(api.Const, n) }
	dup, pop, sub, print := ins(api.Dup), ins(api.Pop), ins(api.Sub), ins(api.Print)
	for k, c := range []struct {
		code []api.Ins
		want []api.Value
	}{
		{[]api.Ins{con(1), store, load, con(2), store, print, load, print}, vals(num(1), num(2))},
		{[]api.Ins{con(1), store, load, load, con(2), store, sub, print}, vals(num(0))},
		{[]api.Ins{con(5), store, load, dup, con(7), store, print, print}, vals(num(5), num(5))},
		{[]api.Ins{con(5), con(3), con(2), sub, sub, print}, vals(num(4))},
		{[]api.Ins{con(5), con(3), sub, con(2), con(1), sub, sub, print}, vals(num(1))},
		{[]api.Ins{con(5), con(3), sub, dup, con(1), sub, sub, print}, vals(num(1))},
		{[]api.Ins{con(5), con(3), sub, con(9), pop, print}, vals(num(2))},
		{[]api.Ins{con(8), con(5), con(3), sub, pop, print}, vals(num(8))},
		{[]api.Ins{con(8), con(5), con(3), ins(api.Equal), print, print}, vals(num(0), num(8))},
		{[]api.Ins{con(8), con(5), con(3), print, print, print}, vals(num(3), num(5), num(8))},
		{[]api.Ins{con(8), con(5), con(3), sub, con(4), print, print, print}, vals(num(4), num(2), num(8))},
		{[]api.Ins{con(2), con(1), ins(api.New), ins(api.Len), sub, print}, vals(num(1))},
		{[]api.Ins{con(1), ins(api.New), dup, con(0), con(6), ins(api.Set), con(0), ins(api.Get), print}, vals(num(6))},
		{[]api.Ins{con(1), ins(api.New), store, load, con(0), load, con(0), load, ins(api.Set), ins(api.Get), print}, vals(arr(0))},
		{[]api.Ins{con(9), load, con(4), store, ins(api.Equal), print, load, print}, vals(num(0), num(4))},
	} {
		code := joined(c.code, []api.Ins{load, ins(api.Return)})
		x := loaded(t, fn(0, 1, code...))
		if got := x.Run(99).Out; !slices.Equal(got, c.want) {
			t.Errorf("line %d: printed %v, want %v", k, got, c.want)
		}
		program := headed(x.program)
		for cut := range code {
			wantTrace(t, "order", program, append(wholly(program), enter(cut)), 99)
		}
	}
}
