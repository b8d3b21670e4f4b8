package upshift

import (
	"slices"
	"sync"
	"testing"

	"upshift/api"
)

// fullProgram: behind 60 of its steps there is something in every list that can come out.
func fullProgram() []api.Func {
	return []api.Func{
		fn(0, 2, ins(api.Const, 3), ins(api.New), ins(api.Store), ins(api.Const, 2), ins(api.New), ins(api.Store, 1),
			ins(api.Const, 6), ins(api.Print), ins(api.Const, 7), ins(api.Print),
			ins(api.Load), ins(api.Const, 1), ins(api.Load, 1), ins(api.Set),
			ins(api.Const, 8), ins(api.Const, 9), ins(api.Fun, 1), ins(api.Load), ins(api.Call, 1), ins(api.Return)),
		fn(1, 3, ins(api.Const, 4), ins(api.Const, 5), ins(api.Const, 6), ins(api.Print), ins(api.Jump, 2), ins(api.Jump, 5), ins(api.Jump, 6)),
	}
}

// room is a list with its spare room.
func room[T any](list []T) []T { return list[:cap(list)] }

// valueLists gathers every list of values of some answers.
func valueLists(states []api.State, outcomes []api.Outcome) [][]api.Value {
	var lists [][]api.Value
	for _, s := range states {
		for _, f := range s.Frames {
			lists = append(lists, room(f.Locals), room(f.Stack))
		}
		for _, a := range s.Arrays {
			lists = append(lists, room(a))
		}
	}
	for _, o := range outcomes {
		lists = append(lists, room(o.Out))
	}
	return lists
}

// overwrite fills each list with a mark of its own, and tells if one was then found in another.
func overwrite[T comparable](lists [][]T, mark func(k int) T) bool {
	for k, list := range lists {
		for i := range list {
			list[i] = mark(k)
		}
	}
	for k, list := range lists {
		for i := range list {
			if list[i] != mark(k) {
				return false
			}
		}
	}
	return true
}

// shifted is the outcome of a full program that is run in both gears.
func shifted(t *testing.T, c *Code, fuel int) api.Outcome {
	t.Helper()
	outcome, _, err := c.Shift(fullEvents(), fuel)
	if err != api.OK {
		t.Errorf("Shift = %d", err)
	}
	return outcome
}

// stopped is how a full program that is run in both gears stands.
func stopped(t *testing.T, c *Code, fuel int) api.State {
	t.Helper()
	state, err := c.Stop(fullEvents(), fuel)
	if err != api.OK {
		t.Errorf("Stop = %d", err)
	}
	return state
}

// fullEvents: function 1 of a full program is in the high gear but for a few of its steps.
func fullEvents() []api.Event {
	return script(compile(0, 0), compile(0, 1), enter(2), exit(30), enter(33), drop(51, 0), enter(51))
}

// P2: the lists of Run, Look, Shift and Stop are new memory, spare room too: no two of them share any, and no later answer changes with them.
func TestAnswersAreNewMemory(t *testing.T) {
	c := loaded(t, fullProgram()...)
	for fuel := range 61 {
		states := []api.State{c.Look(fuel), stopped(t, c, fuel), c.Look(fuel), stopped(t, c, fuel)}
		outcomes := []api.Outcome{c.Run(fuel), shifted(t, c, fuel), c.Run(fuel), shifted(t, c, fuel)}
		want, wantOut := copyState(states[0]), outcomes[0]
		wantOut.Out = slices.Clone(wantOut.Out)
		if !overwrite(valueLists(states, outcomes), func(k int) api.Value { return api.Value{Kind: 100 + k, N: -9} }) {
			t.Fatalf("fuel %d: two lists share memory", fuel)
		}
		for _, s := range states {
			clear(room(s.Frames))
			clear(room(s.Arrays))
		}
		wantState(t, "behind writing", c, fuel, want)
		wantStop(t, "behind writing", c, fullEvents(), fuel, want)
		wantRun(t, "behind writing", c, fuel, wantOut)
		if got := shifted(t, c, fuel); !sameOutcome(got, wantOut) {
			t.Errorf("behind writing: Shift(%d) = %+v, want %+v", fuel, got, wantOut)
		}
	}
	if s := c.Look(60); len(s.Frames) != 2 || len(s.Arrays) != 2 || len(c.Run(60).Out) < 10 {
		t.Errorf("the program does not fill every list: %+v", s)
	}
}

// P2: neither do the lists of frames and of arrays of two answers share memory.
func TestFramesAndArraysAreNewMemory(t *testing.T) {
	c := loaded(t, fullProgram()...)
	answers := []api.State{c.Look(60), stopped(t, c, 60), c.Look(60), stopped(t, c, 60)}
	want := copyState(answers[0])
	for k, one := range answers {
		for i := range room(one.Frames) {
			room(one.Frames)[i] = frame(-1, -1, nil, nil)
		}
		for i := range room(one.Arrays) {
			room(one.Arrays)[i] = vals(num(-1))
		}
		for _, other := range answers[k+1:] {
			if !sameState(other, want) {
				t.Fatalf("an answer changed with another one: %+v", other)
			}
		}
	}
	wantState(t, "behind writing", c, 60, want)
}

// P2: the lists of Headers likewise.
func TestHeadersAreNewMemory(t *testing.T) {
	c := loaded(t, fullProgram()...)
	var lists [][]int
	for range 3 {
		for fun := range 2 {
			lists = append(lists, room(c.Headers(fun)))
		}
	}
	if !overwrite(lists, func(k int) int { return -1 - k }) {
		t.Error("two lists share memory")
	}
	if got := c.Headers(1); !slices.Equal(got, []int{2, 5, 6}) {
		t.Errorf("Headers(1) = %v", got)
	}
	wantRun(t, "behind writing", c, 4, ended(api.Starved, 4))
}

// P2: what the caller writes into its program later on does not come to the code's answers.
func TestAnswersStayWithTheirProgram(t *testing.T) {
	program := fullProgram()
	c := loaded(t, program...)
	for fun := range program {
		for at := range program[fun].Code {
			program[fun].Code[at] = ins(api.Jump, int64(at))
		}
		program[fun] = plain()
	}
	own := loaded(t, fullProgram()...)
	wantRun(t, "behind writing", c, 60, own.Run(60))
	wantLook(t, "behind writing", c, 60, own.Look(60))
	wantStop(t, "behind writing", c, fullEvents(), 60, own.Look(60))
	if got, want := shifted(t, c, 60), own.Run(60); !sameOutcome(got, want) {
		t.Errorf("behind writing: Shift = %+v, want %+v", got, want)
	}
	if got := c.Headers(1); !slices.Equal(got, []int{2, 5, 6}) {
		t.Errorf("Headers(1) = %v", got)
	}
}

// P2: no run leaves anything behind, in whatever order calls of several codes come.
func TestRunsLeaveNothingBehind(t *testing.T) {
	codes := []*Code{loaded(t, fullProgram()...), loaded(t, countdown()), loaded(t, squares()...), loaded(t, depths(25, ins(api.Nil))...)}
	fuels := []int{100, 0, 31, 7, 20, 60}
	type answer struct {
		outcome, shifted api.Outcome
		counts           api.Counts
		state, stopped   api.State
		heads            []int
	}
	events := script(compile(0, 0), enter(2), exit(12), enter(16), drop(18, 0))
	ask := func(c *Code, fuel int) answer {
		shifted, counts, _ := c.Shift(events, fuel)
		stopped, _ := c.Stop(events, fuel)
		return answer{c.Run(fuel), shifted, counts, c.Look(fuel), stopped, c.Headers(0)}
	}
	var first []answer
	for _, c := range codes {
		for _, fuel := range fuels {
			first = append(first, ask(c, fuel))
		}
	}
	check := func() {
		for k, want := range slices.Backward(first) {
			got := ask(codes[k/len(fuels)], fuels[k%len(fuels)])
			ran := sameOutcome(got.outcome, want.outcome) && sameOutcome(got.shifted, want.shifted) && got.counts == want.counts
			stood := sameState(got.state, want.state) && sameState(got.stopped, want.state) && sameState(want.stopped, want.state)
			if !ran || !stood || !slices.Equal(got.heads, want.heads) {
				t.Errorf("call %d: %+v, then %+v", k, want, got)
			}
		}
	}
	var group sync.WaitGroup
	for range 4 {
		group.Go(check)
	}
	group.Wait()
}

// spareEvents lays events out with filled spare room behind them, and gives all of their memory too.
func spareEvents(events []api.Event) (laid, whole []api.Event) {
	whole = append(slices.Clone(events), api.Event{Step: 71, Kind: 72, N: 73}, exit(0), compile(0, 0))
	return whole[:len(events)], whole
}

// P2: Shift writes neither into the events nor into their spare room, and does not look there.
func TestShiftWritesNothing(t *testing.T) {
	c := loaded(t, fullProgram()...)
	for k, events := range append(wrongEvents(), fullEvents(), nil, slices.Repeat(script(compile(0, 0), drop(0, 0)), 100)) {
		for _, fuel := range []int{0, 30, 60, 999} {
			outcome, counts, err := c.Shift(slices.Clip(events), fuel)
			laid, whole := spareEvents(events)
			before := slices.Clone(whole)
			again, countsAgain, errAgain := c.Shift(laid, fuel)
			if !slices.Equal(whole, before) {
				t.Errorf("list %d: Shift changed what was handed in", k)
			}
			if !sameOutcome(again, outcome) || countsAgain != counts || errAgain != err {
				t.Errorf("list %d: %+v, %+v, %d, with spare room %+v, %+v, %d", k, outcome, counts, err, again, countsAgain, errAgain)
			}
		}
	}
}

// P2: nor does Stop.
func TestStopWritesNothing(t *testing.T) {
	c := loaded(t, fullProgram()...)
	for k, events := range append(wrongEvents(), fullEvents(), nil, slices.Repeat(script(compile(0, 0), drop(0, 0)), 100)) {
		for _, fuel := range []int{0, 30, 60, 999} {
			state, err := c.Stop(slices.Clip(events), fuel)
			laid, whole := spareEvents(events)
			before := slices.Clone(whole)
			again, errAgain := c.Stop(laid, fuel)
			if !slices.Equal(whole, before) {
				t.Errorf("list %d: Stop changed what was handed in", k)
			}
			if !sameState(again, state) || errAgain != err {
				t.Errorf("list %d: %+v, %d, with spare room %+v, %d", k, state, err, again, errAgain)
			}
		}
	}
}

// P2: no events are kept: what was compiled in one call is not in the next, and the caller may write into them.
func TestShiftKeepsNothing(t *testing.T) {
	c := loaded(t, countdown())
	events := script(compile(0, 0), enter(9), exit(12))
	wantShift(t, "first", c, events, 99, api.Counts{High: 3, Ups: 1, Downs: 1})
	wantShift(t, "not compiled", c, script(enter(9)), 99, api.Counts{})
	wantShift(t, "none", c, nil, 99, api.Counts{})
	c.Stop(events, 11)
	wantShift(t, "not compiled by Stop", c, script(enter(9)), 99, api.Counts{})
	clear(events)
	wantShift(t, "again", c, script(compile(0, 0), enter(9)), 99, api.Counts{High: 18, Ups: 1})
	c.Shift(events, 99)
	c.Stop(events, 99)
	wantShift(t, "behind an error", c, script(enter(9)), 99, api.Counts{})
}

// P2: an answer of Shift or Stop hangs on no other call, also on none at the same time.
func TestShiftsAtTheSameTime(t *testing.T) {
	c := loaded(t, mixed()...)
	var group sync.WaitGroup
	for k := range 8 {
		group.Go(func() {
			for step := range 60 {
				events := append(wholly(mixed()), drop(step, k%2), compile(step+k, k%2), enter(step+k))
				want := trace(mixed(), events, 99)
				outcome, counts, _ := c.Shift(events, 99)
				wantStop(t, "at the same time", c, events, step, want[step].state)
				if last := want[len(want)-1]; counts != last.counts || !sameOutcome(outcome, last.outcome) {
					t.Errorf("Shift(%v) = %+v, %+v", events, outcome, counts)
				}
			}
		})
	}
	group.Wait()
}
