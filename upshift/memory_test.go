package upshift

import (
	"slices"
	"sync"
	"testing"

	"upshift/api"
)

// fullProgram: behind 60 of its steps there is something in every list that can come out.
func fullProgram() []api.Func {
	return []api.Func{
		fn(0, 2, ins(api.Const, 3), ins(api.New), ins(api.Store), ins(api.Const, 2), ins(api.New), ins(api.Store, 1),
			ins(api.Const, 6), ins(api.Print), ins(api.Const, 7), ins(api.Print),
			ins(api.Load), ins(api.Const, 1), ins(api.Load, 1), ins(api.Set),
			ins(api.Const, 8), ins(api.Const, 9), ins(api.Fun, 1), ins(api.Load), ins(api.Call, 1), ins(api.Return)),
		fn(1, 3, ins(api.Const, 4), ins(api.Const, 5), ins(api.Const, 6), ins(api.Print), ins(api.Jump, 2), ins(api.Jump, 5), ins(api.Jump, 6)),
	}
}

// room is a list with its spare room.
func room[T any](list []T) []T { return list[:cap(list)] }

// valueLists gathers every list of values of some answers.
func valueLists(states []api.State, outcomes []api.Outcome) [][]api.Value {
	var lists [][]api.Value
	for _, s := range states {
		for _, f := range s.Frames {
			lists = append(lists, room(f.Locals), room(f.Stack))
		}
		for _, a := range s.Arrays {
			lists = append(lists, room(a))
		}
	}
	for _, o := range outcomes {
		lists = append(lists, room(o.Out))
	}
	return lists
}

// overwrite fills each list with a mark of its own, and tells if one was then found in another.
func overwrite[T comparable](lists [][]T, mark func(k int) T) bool {
	for k, list := range lists {
		for i := range list {
			list[i] = mark(k)
		}
	}
	for k, list := range lists {
		for i := range list {
			if list[i] != mark(k) {
				return false
			}
		}
	}
	return true
}

// P2: the lists of Run and Look are new memory, spare room too: no two of them share any, and no later answer changes with them.
func TestAnswersAreNewMemory(t *testing.T) {
	c := loaded(t, fullProgram()...)
	for fuel := range 61 {
		states := []api.State{c.Look(fuel), c.Look(fuel)}
		outcomes := []api.Outcome{c.Run(fuel), c.Run(fuel)}
		want, wantOut := copyState(states[0]), outcomes[0]
		wantOut.Out = slices.Clone(wantOut.Out)
		if !overwrite(valueLists(states, outcomes), func(k int) api.Value { return api.Value{Kind: 100 + k, N: -9} }) {
			t.Fatalf("fuel %d: two lists share memory", fuel)
		}
		for _, s := range states {
			clear(room(s.Frames))
			clear(room(s.Arrays))
		}
		wantLook(t, "behind writing", c, fuel, want)
		wantRun(t, "behind writing", c, fuel, wantOut)
	}
	if s := c.Look(60); len(s.Frames) != 2 || len(s.Arrays) != 2 || len(c.Run(60).Out) < 10 {
		t.Errorf("the program does not fill every list: %+v", s)
	}
}

// P2: neither do the lists of frames and of arrays of two answers share memory.
func TestFramesAndArraysAreNewMemory(t *testing.T) {
	c := loaded(t, fullProgram()...)
	first, second := c.Look(60), c.Look(60)
	want := copyState(second)
	for i := range room(first.Frames) {
		room(first.Frames)[i] = frame(-1, -1, nil, nil)
	}
	for i := range room(first.Arrays) {
		room(first.Arrays)[i] = vals(num(-1))
	}
	if !sameState(second, want) {
		t.Errorf("an answer changed with another one: %+v", second)
	}
}

// P2: the lists of Headers likewise.
func TestHeadersAreNewMemory(t *testing.T) {
	c := loaded(t, fullProgram()...)
	var lists [][]int
	for range 3 {
		for fun := range 2 {
			lists = append(lists, room(c.Headers(fun)))
		}
	}
	if !overwrite(lists, func(k int) int { return -1 - k }) {
		t.Error("two lists share memory")
	}
	if got := c.Headers(1); !slices.Equal(got, []int{2, 5, 6}) {
		t.Errorf("Headers(1) = %v", got)
	}
	wantRun(t, "behind writing", c, 4, ended(api.Starved, 4))
}

// P2: what the caller writes into its program later on does not come to the code's answers.
func TestAnswersStayWithTheirProgram(t *testing.T) {
	program := fullProgram()
	c := loaded(t, program...)
	for fun := range program {
		for at := range program[fun].Code {
			program[fun].Code[at] = ins(api.Jump, int64(at))
		}
		program[fun] = plain()
	}
	own := loaded(t, fullProgram()...)
	wantRun(t, "behind writing", c, 60, own.Run(60))
	wantLook(t, "behind writing", c, 60, own.Look(60))
	if got := c.Headers(1); !slices.Equal(got, []int{2, 5, 6}) {
		t.Errorf("Headers(1) = %v", got)
	}
}

// P2: no run leaves anything behind, in whatever order calls of several codes come.
func TestRunsLeaveNothingBehind(t *testing.T) {
	codes := []*Code{loaded(t, fullProgram()...), loaded(t, countdown()), loaded(t, squares()...), loaded(t, depths(25, ins(api.Nil))...)}
	fuels := []int{100, 0, 31, 7, 20, 60}
	type answer struct {
		outcome api.Outcome
		state   api.State
		heads   []int
	}
	ask := func(c *Code, fuel int) answer { return answer{c.Run(fuel), c.Look(fuel), c.Headers(0)} }
	var first []answer
	for _, c := range codes {
		for _, fuel := range fuels {
			first = append(first, ask(c, fuel))
		}
	}
	check := func() {
		for k, want := range slices.Backward(first) {
			got := ask(codes[k/len(fuels)], fuels[k%len(fuels)])
			if !sameOutcome(got.outcome, want.outcome) || !sameState(got.state, want.state) || !slices.Equal(got.heads, want.heads) {
				t.Errorf("call %d: %+v, then %+v", k, want, got)
			}
		}
	}
	var group sync.WaitGroup
	for range 4 {
		group.Go(check)
	}
	group.Wait()
}
