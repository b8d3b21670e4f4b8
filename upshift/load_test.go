package upshift

import (
	"math"
	"slices"
	"testing"

	"upshift/api"
)

// wantLoad holds an answer of Load against the one wanted; with an error there is no code (P1), without one there is.
func wantLoad(t *testing.T, name string, program []api.Func, err api.Errno, fun, at int) {
	t.Helper()
	c, e, f, a := Load(program)
	if e != err || f != fun || a != at {
		t.Errorf("%s: Load = %d, %d, %d, want %d, %d, %d", name, e, f, a, err, fun, at)
	}
	if (c != nil) != (err == api.OK) {
		t.Errorf("%s: code given: %v, with the error %d", name, c != nil, err)
	}
}

// P3: the sizes of a program and of its functions.
func TestLoadSizes(t *testing.T) {
	ret, null := ins(api.Return), ins(api.Nil)
	broken := fn(0, 0, ins(99))
	second := func(f api.Func) []api.Func { return []api.Func{plain(), f} }
	long := func(n int) []api.Ins {
		return append(slices.Repeat([]api.Ins{ins(api.Jump, int64(n-2))}, n-2), null, ret)
	}
	for _, c := range []struct {
		name    string
		program []api.Func
		err     api.Errno
		fun     int
	}{
		{"no list", nil, api.ErrSize, 0},
		{"no functions", []api.Func{}, api.ErrSize, 0},
		{"1 function", plains(1), api.OK, 0},
		{"8 functions", plains(8), api.OK, 0},
		{"9 functions", plains(9), api.ErrSize, 0},
		{"9 functions, the last one broken", append(plains(8), broken), api.ErrSize, 0},
		{"9 functions, the first one broken", append([]api.Func{broken}, plains(8)...), api.ErrSize, 0},
		{"function 7 of 8 without code", append(plains(7), api.Func{}), api.ErrSize, 7},

		{"0 locals", second(fn(0, 0, null, ret)), api.OK, 0},
		{"8 locals", second(fn(0, 8, null, ret)), api.OK, 0},
		{"9 locals", second(fn(0, 9, null, ret)), api.ErrSize, 1},
		{"-1 locals", second(fn(0, -1, null, ret)), api.ErrSize, 1},
		{"most locals", second(fn(0, math.MaxInt, null, ret)), api.ErrSize, 1},
		{"least locals", second(fn(0, math.MinInt, null, ret)), api.ErrSize, 1},
		{"least locals and arguments", second(fn(math.MinInt, math.MinInt, null, ret)), api.ErrSize, 1},
		{"9 locals, all arguments", second(fn(9, 9, null, ret)), api.ErrSize, 1},

		{"as many arguments as locals", second(fn(3, 3, null, ret)), api.OK, 0},
		{"8 arguments", second(fn(8, 8, null, ret)), api.OK, 0},
		{"an argument more than locals", second(fn(4, 3, null, ret)), api.ErrSize, 1},
		{"an argument and no locals", second(fn(1, 0, null, ret)), api.ErrSize, 1},
		{"-1 arguments", second(fn(-1, 3, null, ret)), api.ErrSize, 1},
		{"arguments of function 0", []api.Func{fn(1, 1, null, ret)}, api.ErrSize, 0},
		{"locals of function 0", []api.Func{fn(0, 8, null, ret)}, api.OK, 0},

		{"no instructions", main1(), api.ErrSize, 0},
		{"1 instruction", main1(ins(api.Jump)), api.OK, 0},
		{"64 instructions", main1(long(64)...), api.OK, 0},
		{"65 instructions", main1(long(65)...), api.ErrSize, 0},
	} {
		wantLoad(t, c.name, c.program, c.err, c.fun, 0)
	}
}

// P3: an instruction that is none.
func TestLoadUnknownInstruction(t *testing.T) {
	for _, op := range []int{-1, 22, 99, math.MaxInt, math.MinInt} {
		wantLoad(t, "first", main1(ins(op), ins(api.Return)), api.ErrOp, 0, 0)
		wantLoad(t, "come to by nothing", main1(ins(api.Nil), ins(api.Return), ins(op)), api.ErrOp, 0, 2)
		wantLoad(t, "in function 1", []api.Func{plain(), fn(0, 0, ins(api.Nil), ins(op))}, api.ErrOp, 1, 1)
	}
}

// P3: the instructions whose A matters, at the edges and beyond. A stack at which all of them have enough stands below each.
func TestLoadOperands(t *testing.T) {
	const below = 10
	for _, c := range []struct {
		name   string
		op     int
		locals int
		length int64 // A is right from 0 up to here, without this one
	}{
		{"Load of 8", api.Load, 8, 8},
		{"Load of 1", api.Load, 1, 1},
		{"Load of none", api.Load, 0, 0},
		{"Store of 8", api.Store, 8, 8},
		{"Store of 3", api.Store, 3, 3},
		{"Store of none", api.Store, 0, 0},
		{"Fun", api.Fun, 0, 3},
		{"Call", api.Call, 0, 9},
	} {
		load := func(a int64, err api.Errno, fun, at int) {
			t.Helper()
			code := append(nils(below), ins(c.op, a), ins(api.Nil), ins(api.Return))
			wantLoad(t, c.name, []api.Func{plain(), fn(0, c.locals, code...), plain()}, err, fun, at)
		}
		for a := range c.length {
			load(a, api.OK, 0, 0)
		}
		for _, a := range []int64{-1, c.length, c.length + 1, 1 << 32, -1 << 32, math.MaxInt64, math.MinInt64} {
			load(a, api.ErrOp, 1, below)
		}
	}
}

// P3: where Jump and Branch may go.
func TestLoadTargets(t *testing.T) {
	jump := func(a int64) []api.Func { return main1(ins(api.Jump, 1), ins(api.Jump, a), ins(api.Jump, 1)) }
	branch := func(a int64) []api.Func {
		return main1(ins(api.Nil), ins(api.Branch, a), ins(api.Nil), ins(api.Return), ins(api.Jump, 0))
	}
	for _, a := range []int64{0, 1, 2} {
		wantLoad(t, "Jump", jump(a), api.OK, 0, 0)
	}
	for _, a := range []int64{-1, 3, 4, 1 << 32, math.MaxInt64, math.MinInt64} {
		wantLoad(t, "Jump beyond", jump(a), api.ErrOp, 0, 1)
	}
	for _, a := range []int64{0, 2, 4} {
		wantLoad(t, "Branch", branch(a), api.OK, 0, 0)
	}
	for _, a := range []int64{-1, 5, 6, 1 << 32, math.MaxInt64, math.MinInt64} {
		wantLoad(t, "Branch beyond", branch(a), api.ErrOp, 0, 1)
	}
	// A function's targets are its own instructions, not those of a longer one.
	wantLoad(t, "short behind long", []api.Func{fn(0, 0, append(nils(9), ins(api.Return))...), fn(0, 0, ins(api.Jump, 1))}, api.ErrOp, 1, 0)
}

// P3: a Fun may name its own function, and one that comes later.
func TestLoadFunOfAnyFunction(t *testing.T) {
	for a := range int64(8) {
		program := append([]api.Func{fn(0, 0, ins(api.Fun, a), ins(api.Return))}, plains(7)...)
		wantLoad(t, "Fun", program, api.OK, 0, 0)
	}
}

type height struct {
	op           int
	a            int64
	pops, pushes int
}

// straight lists the instructions that go on to the one behind them, with what they pop and push.
func straight() []height {
	list := []height{
		{api.Const, 0, 0, 1}, {api.Nil, 0, 0, 1}, {api.Fun, 0, 0, 1}, {api.Load, 0, 0, 1}, {api.Store, 0, 1, 0},
		{api.Add, 0, 2, 1}, {api.Sub, 0, 2, 1}, {api.Mul, 0, 2, 1}, {api.Div, 0, 2, 1}, {api.Less, 0, 2, 1}, {api.Equal, 0, 2, 1},
		{api.New, 0, 1, 1}, {api.Len, 0, 1, 1}, {api.Get, 0, 2, 1}, {api.Set, 0, 3, 0},
		{api.Print, 0, 1, 0}, {api.Pop, 0, 1, 0}, {api.Dup, 0, 1, 2},
	}
	for a := range 9 {
		list = append(list, height{api.Call, int64(a), a + 1, 1})
	}
	return list
}

// P3: what each instruction needs, and its height behind it: told by how many Nils still fit.
func TestLoadHeights(t *testing.T) {
	for _, h := range straight() {
		program := func(below, above int) []api.Func {
			code := append(nils(below), ins(h.op, h.a))
			code = append(code, nils(above)...)
			return []api.Func{fn(0, 1, append(code, ins(api.Return))...)}
		}
		room := api.MaxStack - h.pushes
		wantLoad(t, "up to 16", program(h.pops, room), api.OK, 0, 0)
		wantLoad(t, "up to 17", program(h.pops, room+1), api.ErrStack, 0, h.pops+1+room)
		if h.pops > 0 {
			wantLoad(t, "one too few", program(h.pops-1, room), api.ErrStack, 0, h.pops-1)
		}
		if h.pushes > h.pops {
			wantLoad(t, "at 15", program(api.MaxStack-1, 0), api.OK, 0, 0)
			wantLoad(t, "at 16", program(api.MaxStack, 0), api.ErrStack, 0, api.MaxStack)
		} else {
			wantLoad(t, "at 16", program(api.MaxStack, 0), api.OK, 0, 0)
		}
	}
}

// P3: Return needs one value and may leave others; Jump needs none and keeps the height; Branch needs one and pops it.
func TestLoadHeightsOfTurns(t *testing.T) {
	ret, null := ins(api.Return), ins(api.Nil)
	for _, c := range []struct {
		name string
		code []api.Ins
		err  api.Errno
		at   int
	}{
		{"Return of nothing", []api.Ins{ret}, api.ErrStack, 0},
		{"Return of the only one", []api.Ins{null, ret}, api.OK, 0},
		{"Return of the 16th", append(nils(16), ret), api.OK, 0},
		{"Jump at 16", append(nils(16), ins(api.Jump, 17), ret), api.OK, 0},
		{"Jump keeps nothing", []api.Ins{ins(api.Jump, 1), ret}, api.ErrStack, 1},
		{"Branch on nothing", []api.Ins{ins(api.Branch, 1), null, ret}, api.ErrStack, 0},
		{"Branch pops on the way behind", []api.Ins{null, ins(api.Branch, 3), ret, null, ret}, api.ErrStack, 2},
		{"Branch pops on the way it jumps", []api.Ins{null, ins(api.Branch, 4), null, ret, ret}, api.ErrStack, 4},
		{"Branch to the one behind", []api.Ins{null, ins(api.Branch, 2), null, ret}, api.OK, 0},
	} {
		wantLoad(t, c.name, main1(c.code...), c.err, 0, c.at)
	}
}

// P3: a function that may run beyond its end.
func TestLoadEnd(t *testing.T) {
	null := ins(api.Nil)
	for _, c := range []struct {
		name string
		code []api.Ins
		err  api.Errno
		at   int
	}{
		{"Const at the end", []api.Ins{ins(api.Const, 1)}, api.ErrEnd, 0},
		{"the last of several", []api.Ins{null, null, ins(api.Add)}, api.ErrEnd, 2},
		{"Branch at the end", []api.Ins{null, ins(api.Branch, 0)}, api.ErrEnd, 1},
		{"Call at the end", []api.Ins{ins(api.Fun), ins(api.Call)}, api.ErrEnd, 1},
		{"Jump at the end", []api.Ins{null, ins(api.Pop), ins(api.Jump, 0)}, api.OK, 0},
		{"an end that nothing comes to", []api.Ins{null, ins(api.Return), null}, api.OK, 0},
		{"the end of 64", append(slices.Repeat([]api.Ins{null, ins(api.Pop)}, 31), null, null), api.ErrEnd, 63},
		{"too low a stack comes ahead", []api.Ins{ins(api.Pop)}, api.ErrStack, 0},
		{"too high a stack comes ahead", nils(17), api.ErrStack, 16},
		{"the end comes ahead of another height where it jumps", []api.Ins{null, ins(api.Branch, 1)}, api.ErrEnd, 1},
	} {
		wantLoad(t, c.name, main1(c.code...), c.err, 0, c.at)
	}
}

// P3: instructions that are come to on several ways.
func TestLoadJoins(t *testing.T) {
	ret, null, pop := ins(api.Return), ins(api.Nil), ins(api.Pop)
	branch := func(a int64) api.Ins { return ins(api.Branch, a) }
	jump := func(a int64) api.Ins { return ins(api.Jump, a) }
	for _, c := range []struct {
		name string
		code []api.Ins
		err  api.Errno
		at   int
	}{
		{"back to the same height", []api.Ins{null, branch(0), null, ret}, api.OK, 0},
		{"back to 0 with a height", []api.Ins{null, jump(0)}, api.ErrStack, 1},
		{"Jump to itself", []api.Ins{null, jump(1)}, api.OK, 0},
		{"Branch to itself", []api.Ins{null, branch(1), null, ret}, api.ErrStack, 1},
		{"both ways alike", []api.Ins{null, branch(4), null, jump(5), null, ret}, api.OK, 0},
		{"both ways unlike", []api.Ins{null, branch(4), null, jump(5), jump(5), ret}, api.ErrStack, 4},
		{"onto one that waits, from ahead of it", []api.Ins{null, branch(4), null, null, null, ret}, api.ErrStack, 3},
		{"onto one that waits, at its height", []api.Ins{null, branch(4), null, pop, null, ret}, api.OK, 0},
		{"back onto one that was looked at, higher", []api.Ins{null, null, pop, null, null, jump(2)}, api.ErrStack, 5},
		{"back onto one that was looked at, lower", []api.Ins{null, null, pop, pop, jump(2)}, api.ErrStack, 4},
		{"back to one that was passed over", []api.Ins{jump(2), ret, null, jump(1)}, api.OK, 0},
		{"a fault in one that was passed over", []api.Ins{jump(2), ret, jump(1)}, api.ErrStack, 1},
		{"a Jump over what would be wrong", []api.Ins{jump(3), ins(api.Set), null, null, ret}, api.OK, 0},
		{"behind a Return and a loop nothing is looked at", []api.Ins{null, branch(4), null, ret, jump(4), ins(api.Add), null}, api.OK, 0},
	} {
		wantLoad(t, c.name, main1(c.code...), c.err, 0, c.at)
	}
}

// P3: of several faults the one that is come to first in the order of looking, not of the listing or of the ways.
func TestLoadOrderOfLooking(t *testing.T) {
	null, pop := ins(api.Nil), ins(api.Pop)
	branch := func(a int64) api.Ins { return ins(api.Branch, a) }
	jump := func(a int64) api.Ins { return ins(api.Jump, a) }
	for _, c := range []struct {
		name string
		code []api.Ins
		err  api.Errno
		at   int
	}{
		{"the one behind ahead of a later one", []api.Ins{null, branch(4), jump(3), pop, pop}, api.ErrStack, 3},
		{"the whole way behind ahead of the jump's", []api.Ins{null, branch(6), null, pop, null, ins(api.Add), pop}, api.ErrStack, 5},
		{"where it jumps ahead of the one behind, if that is back", []api.Ins{jump(3), pop, pop, null, branch(1), pop}, api.ErrStack, 1},
		{"a way back ahead of one that waited longer", []api.Ins{null, branch(6), null, jump(5), pop, jump(4), pop}, api.ErrStack, 4},
		{"back below one that waits", []api.Ins{jump(3), pop, null, null, branch(7), null, branch(1), ins(api.Add)}, api.ErrStack, 1},
		{"a low stack ahead of the end on another way", []api.Ins{null, branch(3), jump(4), pop, null}, api.ErrStack, 3},
	} {
		wantLoad(t, c.name, main1(c.code...), c.err, 0, c.at)
	}
}

// P3: the first function in which something is wrong is told; within one, sizes ahead of instructions ahead of heights.
func TestLoadWhichFault(t *testing.T) {
	low, none := ins(api.Add), ins(99)
	size, op, end, stack := fn(0, 9, low), fn(0, 0, ins(api.Nil), none), fn(0, 0, ins(api.Nil)), fn(0, 0, ins(api.Nil), low)
	for _, c := range []struct {
		name    string
		program []api.Func
		err     api.Errno
		fun, at int
	}{
		{"stack, then size", []api.Func{stack, size}, api.ErrStack, 0, 1},
		{"end, then op", []api.Func{plain(), end, op}, api.ErrEnd, 1, 0},
		{"op, then size", []api.Func{plain(), plain(), op, size}, api.ErrOp, 2, 1},
		{"size, then stack", []api.Func{plain(), size, stack}, api.ErrSize, 1, 0},
		{"in the 7th", append(plains(7), stack), api.ErrStack, 7, 1},
		{"size ahead of op", []api.Func{fn(0, 9, none)}, api.ErrSize, 0, 0},
		{"arguments of function 0 ahead of op", []api.Func{fn(1, 1, ins(api.Nil), none)}, api.ErrSize, 0, 0},
		{"op ahead of stack", main1(low, none), api.ErrOp, 0, 1},
		{"a wrong A ahead of stack", main1(low, ins(api.Call, 9)), api.ErrOp, 0, 1},
		{"the first of two ops", main1(ins(api.Nil), ins(api.Load), none), api.ErrOp, 0, 1},
	} {
		wantLoad(t, c.name, c.program, c.err, c.fun, c.at)
	}
}

// P3: of the instructions without a meaning for A any A is right.
func TestLoadIdleOperands(t *testing.T) {
	idle := []int{
		api.Const, api.Nil, api.Add, api.Sub, api.Mul, api.Div, api.Less, api.Equal,
		api.New, api.Get, api.Set, api.Len, api.Print, api.Pop, api.Dup,
	}
	for _, a := range []int64{-1, 9, 64, math.MaxInt64, math.MinInt64} {
		for _, op := range idle {
			code := append(nils(3), ins(op, a), ins(api.Nil), ins(api.Return, a))
			wantLoad(t, "idle A", main1(code...), api.OK, 0, 0)
		}
	}
}

// Example 2 of the document.
func TestLoadExamples(t *testing.T) {
	wantLoad(t, "no functions", nil, api.ErrSize, 0, 0)
	wantLoad(t, "Const 1", main1(ins(api.Const, 1)), api.ErrEnd, 0, 0)
	wantLoad(t, "Add, Return", main1(ins(api.Add), ins(api.Return)), api.ErrStack, 0, 0)
	wantLoad(t, "Jump 0", main1(ins(api.Jump, 0)), api.OK, 0, 0)
	wantLoad(t, "Jump 1", main1(ins(api.Jump, 1)), api.ErrOp, 0, 0)
	wantLoad(t, "Branch back", main1(ins(api.Const, 1), ins(api.Branch, 0), ins(api.Nil), ins(api.Return)), api.OK, 0, 0)
	wantLoad(t, "Const 1, Jump 0", main1(ins(api.Const, 1), ins(api.Jump, 0)), api.ErrStack, 0, 1)
}
