package upshift

import (
	"math"
	"slices"
	"testing"

	"upshift/api"
)

// Examples 1, 3, 4 and 5 of the document, stopped in the high gear.
func TestStopExamples(t *testing.T) {
	all := script(compile(0, 0), enter(0))
	first := loaded(t, headed(main1(ins(api.Const, 2), ins(api.Const, 3), ins(api.Sub), ins(api.Print), ins(api.Nil), ins(api.Return)))...)
	wantStop(t, "1", first, all, 3, stands(frame(0, 3, nil, vals(num(-1)))))
	wantStop(t, "1", first, all, 6, stands())
	third := loaded(t, countdown())
	for _, last := range []api.Event{exit(99), exit(9), exit(10), exit(12), drop(11, 0), enter(10)} {
		events := script(compile(0, 0), enter(9), last)
		wantStop(t, "3", third, events, 9, stands(frame(0, 2, vals(num(2)), nil)))
		wantStop(t, "3", third, events, 12, stands(frame(0, 5, vals(num(2)), vals(num(2)))))
		wantStop(t, "3", third, events, 14, stands(frame(0, 7, vals(num(2)), vals(num(1)))))
		wantStop(t, "3", third, events, 27, stands())
	}
	fourth := loaded(t, squares()...)
	for _, events := range [][]api.Event{script(compile(0, 1)), script(compile(0, 1), exit(4)), nil} {
		wantStop(t, "4", fourth, events, 4, stands(frame(0, 3, nil, nil), frame(1, 1, vals(num(7)), vals(num(7)))))
	}
	fifth := loaded(t, headed(main1(ins(api.Const, 1), ins(api.Const), ins(api.Div), ins(api.Return)))...)
	wantStop(t, "5", fifth, all, 9, stands(frame(0, 2, nil, nil)))
	deep := append(slices.Repeat([]api.Frame{frame(0, 2, nil, nil)}, 23), frame(0, 1, nil, nil))
	wantStop(t, "5", loaded(t, headed(main1(ins(api.Fun), ins(api.Call), ins(api.Return)))...), all, 48, stands(deep...))
}

// P8 and P1: each way to get ErrEvent, at any fuel, with nothing beside it; also where the wrong one is far behind the run's end.
func TestStopErrEvent(t *testing.T) {
	for _, program := range [][]api.Func{squares(), sampleProgram(), fullProgram()} {
		c := loaded(t, program...)
		for k, events := range wrongEvents() {
			for _, fuel := range []int{math.MinInt, -1, 0, 3, 100, math.MaxInt} {
				if s, err := c.Stop(events, fuel); err != api.ErrEvent || len(s.Frames) != 0 || len(s.Arrays) != 0 {
					t.Errorf("list %d: Stop = %+v, %d", k, s, err)
				}
			}
		}
	}
}

// P8: events that may be, at the edges of those that may not.
func TestStopEventsThatMayBe(t *testing.T) {
	c := loaded(t, squares()...)
	want := stands(frame(0, 3, nil, nil), frame(1, 2, vals(num(7)), vals(num(7), num(7))))
	for _, events := range [][]api.Event{
		nil,
		script(),
		slices.Repeat(script(exit(0)), 200),
		slices.Repeat(script(compile(0, 1)), 200),
		slices.Repeat(script(compile(4, 1), drop(4, 1)), 100),
		script(exit(0), exit(0), exit(4), exit(4)),
		script(compile(math.MaxInt, 1), enter(math.MaxInt)),
		script(drop(0, 1), compile(0, 1), drop(0, 0), compile(0, 0)),
		script(compile(0, 1), api.Event{Kind: api.Enter, N: math.MinInt}, api.Event{Step: 4, Kind: api.Exit, N: math.MaxInt}),
		script(compile(0, 1), api.Event{Kind: api.Enter, N: 2}, api.Event{Step: 5, Kind: api.Exit, N: -1}),
	} {
		wantStop(t, "may be", c, events, 5, want)
	}
}

// P8: the fuel's bounds are those of Run, also with an event at the bound and beyond it.
func TestStopFuel(t *testing.T) {
	c := loaded(t, counter()...)
	for _, step := range []int{0, 2, 99996, 99998, 99999, 100000, 100001, math.MaxInt} {
		events := script(compile(0, 0), enter(2), exit(max(step, 2)))
		for _, fuel := range []int{math.MinInt, -1, 0} {
			wantStop(t, "no fuel", c, events, fuel, stands(frame(0, 0, vals(api.Value{}), nil)))
		}
		wantStop(t, "one less than the bound", c, events, 99999, stands(frame(0, 4, vals(num(19999)), vals(num(19999), num(1)))))
		for _, fuel := range []int{100000, 100001, 1 << 40, math.MaxInt} {
			wantStop(t, "at the bound and above", c, events, fuel, stands(frame(0, 5, vals(num(19999)), vals(num(20000)))))
		}
	}
}

// layered: three frames, one above the other, of which the last one does an op to its first two locals, both numbers, or the second an array.
func layered(load int64, op int) []api.Func {
	return headed([]api.Func{
		fn(0, 1, ins(api.Const, 4), ins(api.Store), ins(api.Const, 8), ins(api.Fun, 1), ins(api.Load), ins(api.Call, 1), ins(api.Return)),
		fn(1, 2, ins(api.Const, 9), ins(api.Fun, 2), ins(api.Load), ins(api.Const, 5), ins(api.Call, 2), ins(api.Return)),
		fn(2, 3, ins(api.Const, 1), ins(api.New), ins(api.Store, 2), ins(api.Load, 2), ins(api.Const), ins(api.Load, 1), ins(api.Set),
			ins(api.Load), ins(api.Load, load), ins(op), ins(api.Return)),
	})
}

// layeredStates is how a layered program stands behind each of its steps, up to the one that does its op.
func layeredStates(second api.Value) []api.State {
	null, a0, f1, f2 := api.Value{}, arr(0), fun(1), fun(2)
	main := func(at int, local api.Value, stack ...api.Value) api.Frame { return frame(0, at, vals(local), stack) }
	waits := main(6, num(4), num(8))
	mid := func(at int, stack ...api.Value) api.State {
		return stands(waits, frame(1, at, vals(num(4), null), stack))
	}
	top := func(at int, local api.Value, cells [][]api.Value, stack ...api.Value) api.State {
		s := mid(5, num(9))
		return api.State{Frames: append(s.Frames, frame(2, at, vals(num(4), num(5), local), stack)), Arrays: cells}
	}
	empty, full := [][]api.Value{vals(null)}, [][]api.Value{vals(num(5))}
	return []api.State{
		stands(main(0, null)),
		stands(main(1, null, num(4))),
		stands(main(2, num(4))),
		stands(main(3, num(4), num(8))),
		stands(main(4, num(4), num(8), f1)),
		stands(main(5, num(4), num(8), f1, num(4))),
		mid(0),
		mid(1, num(9)),
		mid(2, num(9), f2),
		mid(3, num(9), f2, num(4)),
		mid(4, num(9), f2, num(4), num(5)),
		top(0, null, nil),
		top(1, null, nil, num(1)),
		top(2, null, empty, a0),
		top(3, a0, empty),
		top(4, a0, empty, a0),
		top(5, a0, empty, a0, num(0)),
		top(6, a0, empty, a0, num(0), num(5)),
		top(7, a0, full),
		top(8, a0, full, num(4)),
		top(9, a0, full, num(4), second),
	}
}

// layeredGears is every choice of functions in the high gear, with the steps that they do until step 20.
func layeredGears() (choices [][]api.Event, high []int) {
	for choice := range 8 {
		var events []api.Event
		steps := 0
		for fun, own := range []int{6, 5, 9} {
			if choice>>fun&1 == 1 {
				events = append(events, compile(0, fun))
				steps += own
			}
		}
		choices = append(choices, append(events, enter(0)))
		high = append(high, steps)
	}
	return choices, high
}

// wantStops stops a run behind each of its steps, and goes down in every way ahead of each one, within stretches too.
func wantStops(t *testing.T, name string, c *Code, events []api.Event, states []api.State) {
	t.Helper()
	for step := range states {
		for _, e := range script(exit(step), drop(step, 0), drop(step, 1), drop(step, 2), enter(step)) {
			for fuel, want := range states {
				wantStop(t, name, c, append(slices.Clone(events), e), fuel, want)
			}
		}
	}
}

// P8: several frames, each of them in either gear, stopped behind each step up to Halted.
func TestStopFramesInDifferentGears(t *testing.T) {
	c := loaded(t, layered(1, api.Add)...)
	states := layeredStates(num(5))
	full := [][]api.Value{vals(num(5))}
	last := api.State{Frames: slices.Clone(states[20].Frames), Arrays: full}
	last.Frames[2] = frame(2, 10, vals(num(4), num(5), arr(0)), vals(num(9)))
	below := frame(0, 6, vals(num(4)), vals(num(8)))
	states = append(states, last,
		api.State{Frames: []api.Frame{below, frame(1, 5, vals(num(4), api.Value{}), vals(num(9), num(9)))}, Arrays: full},
		api.State{Frames: []api.Frame{frame(0, 6, vals(num(4)), vals(num(8), num(9)))}, Arrays: full},
		api.State{Arrays: full}, api.State{Arrays: full})
	wantRun(t, "layered", c, 99, halted(24, num(9)))
	choices, high := layeredGears()
	for k, events := range choices {
		want := api.Counts{High: high[k], Ups: k & 1}
		wantShift(t, "gears", c, events, 20, want)
		wantStops(t, "gears", c, events, states)
	}
}

// P8: behind a step that was trapped, with frames below it in either gear; events behind that step do not come.
func TestStopBehindATrapInDifferentGears(t *testing.T) {
	c := loaded(t, layered(2, api.Add)...)
	states := layeredStates(arr(0))
	trapped := api.State{Frames: slices.Clone(states[20].Frames), Arrays: states[20].Arrays}
	trapped.Frames[2] = frame(2, 9, vals(num(4), num(5), arr(0)), nil)
	states = append(states, trapped, trapped, trapped)
	wantRun(t, "layered", c, 99, ended(api.TrapType, 21))
	choices, _ := layeredGears()
	for _, events := range choices {
		wantStops(t, "trapped", c, events, states)
	}
}

// P8: as many events as there may be, one ahead of each step, of all kinds by turns: Stop is Look at every fuel.
func TestStopWithManyEvents(t *testing.T) {
	programs := [][]api.Func{mixed(), headed(depths(20, ins(api.Const, 3))), {countdown(), plain()}, headed(depths(25, ins(api.Nil)))}
	for _, program := range programs {
		c := loaded(t, program...)
		for from := range 5 {
			events := wholly(program)
			for step := len(events); step < api.MaxEvents; step++ {
				kinds := script(drop(step, 1), compile(step, 1), exit(step), enter(step), drop(step, 0), compile(step, 0), enter(step))
				events = append(events, kinds[(step*(from+1)+from)%len(kinds)])
			}
			for fuel := range 220 {
				wantStop(t, "many events", c, events, fuel, c.Look(fuel))
			}
		}
	}
}
