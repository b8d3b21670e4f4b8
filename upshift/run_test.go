package upshift

import (
	"math"
	"slices"
	"testing"

	"upshift/api"
)

const least, most = math.MinInt64, math.MaxInt64

func halted(steps int, gives api.Value, out ...api.Value) api.Outcome {
	return api.Outcome{End: api.Halted, Steps: steps, Gives: gives, Out: out}
}

// ended: by a trap, or for lack of fuel.
func ended(end, steps int, out ...api.Value) api.Outcome {
	return api.Outcome{End: end, Steps: steps, Out: out}
}

func squares() []api.Func {
	return []api.Func{
		fn(0, 0, ins(api.Fun, 1), ins(api.Const, 7), ins(api.Call, 1), ins(api.Return)),
		fn(1, 1, ins(api.Load), ins(api.Load), ins(api.Mul), ins(api.Return)),
	}
}

// counter counts up in its local 0, five steps a round, the first of them being step 2.
func counter() []api.Func {
	return []api.Func{fn(0, 1,
		ins(api.Const), ins(api.Store), ins(api.Load), ins(api.Const, 1), ins(api.Add), ins(api.Store), ins(api.Jump, 2))}
}

// Examples 1 and 3 to 5 of the document, as far as they speak of Run.
func TestRunExamples(t *testing.T) {
	first := loaded(t, main1(ins(api.Const, 2), ins(api.Const, 3), ins(api.Sub), ins(api.Print), ins(api.Nil), ins(api.Return))...)
	wantRun(t, "1", first, 100, halted(6, api.Value{}, num(-1)))
	wantRun(t, "1", first, 3, ended(api.Starved, 3))
	wantRun(t, "3", loaded(t, countdown()), 100, halted(27, api.Value{}))
	wantRun(t, "4", loaded(t, squares()...), 100, halted(8, num(49)))
	wantRun(t, "5", loaded(t, main1(ins(api.Const, 1), ins(api.Const), ins(api.Div), ins(api.Return))...), 100, ended(api.TrapDivide, 3))
	wantRun(t, "5", loaded(t, main1(ins(api.Fun), ins(api.Call), ins(api.Return))...), 100, ended(api.TrapDeep, 48))
}

// P5: the fuel's bounds.
func TestRunFuel(t *testing.T) {
	c := loaded(t, countdown())
	for _, fuel := range []int{math.MinInt, -100001, -1, 0} {
		wantRun(t, "no fuel", c, fuel, ended(api.Starved, 0))
	}
	for fuel := range 27 {
		wantRun(t, "too little fuel", c, fuel, ended(api.Starved, fuel))
	}
	for _, fuel := range []int{27, 28, api.MaxFuel, api.MaxFuel + 1, math.MaxInt} {
		wantRun(t, "enough fuel", c, fuel, halted(27, api.Value{}))
	}
	endless := loaded(t, main1(ins(api.Jump))...)
	for _, fuel := range []int{99999, 100000} {
		wantRun(t, "up to the bound", endless, fuel, ended(api.Starved, fuel))
	}
	for _, fuel := range []int{100001, 1 << 40, math.MaxInt} {
		wantRun(t, "above the bound", endless, fuel, ended(api.Starved, 100000))
	}
}

// P5: a trap or a Return at the last step that there is fuel for is how the run ends; one step less, and it is Starved.
func TestRunFuelAtTheEnd(t *testing.T) {
	trapped := loaded(t, main1(ins(api.Nil), ins(api.Len), ins(api.Return))...)
	wantRun(t, "trapped", trapped, 1, ended(api.Starved, 1))
	wantRun(t, "trapped", trapped, 2, ended(api.TrapType, 2))
	wantRun(t, "trapped", trapped, 3, ended(api.TrapType, 2))
	wantRun(t, "halted", loaded(t, plain()), 1, ended(api.Starved, 1))
	wantRun(t, "halted", loaded(t, plain()), 2, halted(2, api.Value{}))
	late := func(n int64) *Code {
		code := joined([]api.Ins{ins(api.Const, n), ins(api.Store)}, countdown().Code[2:])
		return loaded(t, fn(0, 1, code...))
	}
	wantRun(t, "just within the bound", late(14284), math.MaxInt, halted(99994, api.Value{}))
	wantRun(t, "just beyond the bound", late(14285), math.MaxInt, ended(api.Starved, 100000))
}

// P5: what the instructions on two numbers give.
func TestRunNumbers(t *testing.T) {
	for _, c := range []struct {
		op         int
		a, b, want int64
	}{
		{api.Add, 2, 3, 5}, {api.Add, -2, 3, 1}, {api.Add, most, 1, least}, {api.Add, least, -1, most}, {api.Add, least, least, 0},
		{api.Sub, 2, 3, -1}, {api.Sub, least, 1, most}, {api.Sub, most, -1, least}, {api.Sub, 0, least, least},
		{api.Mul, -7, 6, -42}, {api.Mul, most, 2, -2}, {api.Mul, least, -1, least}, {api.Mul, 1 << 32, 1 << 32, 0}, {api.Mul, 3037000500, 3037000500, -9223372036709301616},
		{api.Div, 7, 2, 3}, {api.Div, -7, 2, -3}, {api.Div, 7, -2, -3}, {api.Div, -7, -2, 3}, {api.Div, 1, 2, 0}, {api.Div, -1, 2, 0}, {api.Div, 0, 5, 0},
		{api.Div, least, -1, least}, {api.Div, least, 1, least}, {api.Div, most, -1, -most}, {api.Div, least, least, 1}, {api.Div, 6, 3, 2},
		{api.Less, 1, 2, 1}, {api.Less, 2, 1, 0}, {api.Less, 2, 2, 0}, {api.Less, least, most, 1}, {api.Less, most, least, 0}, {api.Less, -1, 0, 1},
		{api.Equal, 2, 2, 1}, {api.Equal, 2, 3, 0}, {api.Equal, least, least, 1}, {api.Equal, least, most, 0}, {api.Equal, 0, 1 << 32, 0},
	} {
		code := loaded(t, main1(ins(api.Const, c.a), ins(api.Const, c.b), ins(c.op), ins(api.Return))...)
		wantRun(t, "two numbers", code, 9, halted(4, num(c.want)))
	}
}

// P5: Equal holds kinds against each other, and which one; no two arrays are the same.
func TestRunEqual(t *testing.T) {
	values := vals(api.Value{}, num(0), num(1), fun(0), fun(1), arr(0))
	for i, a := range values {
		for k, b := range values {
			want := int64(0)
			if i == k && a.Kind != api.IsArray {
				want = 1
			}
			code := joined(pushed(a, b), []api.Ins{ins(api.Equal), ins(api.Return)})
			wantRun(t, "Equal", loaded(t, fn(0, 0, code...), plain()), 99, halted(len(code), num(want)))
		}
	}
	itself := loaded(t, main1(ins(api.Const), ins(api.New), ins(api.Dup), ins(api.Equal), ins(api.Return))...)
	wantRun(t, "an array and itself", itself, 99, halted(5, num(1)))
}

// P5: Branch goes there at nil and at the number 0, at nothing else.
func TestRunBranch(t *testing.T) {
	for _, v := range vals(api.Value{}, num(0), num(1), num(-1), num(least), num(1<<32), fun(0), fun(1), arr(0)) {
		push := ofValue(v)
		n := int64(len(push))
		code := joined(push, []api.Ins{ins(api.Branch, n+3), ins(api.Const, 10), ins(api.Return), ins(api.Const, 20), ins(api.Return)})
		want := num(10)
		if v == num(0) || v == (api.Value{}) {
			want = num(20)
		}
		wantRun(t, "Branch", loaded(t, fn(0, 0, code...), plain()), 99, halted(len(push)+3, want))
	}
}

// P5: what a run gives and prints may be of any kind; what was printed stays, however the run ends.
func TestRunGivesAndPrints(t *testing.T) {
	all := vals(num(5), api.Value{}, fun(1), arr(0), num(-5))
	for _, v := range all {
		code := joined(pushed(v), []api.Ins{ins(api.Return)})
		wantRun(t, "gives", loaded(t, fn(0, 0, code...), plain()), 99, halted(len(code), v))
	}
	var prints []api.Ins
	for _, v := range all {
		prints = append(prints, append(pushed(v), ins(api.Print))...)
	}
	code := joined(prints, []api.Ins{ins(api.Const, 8), ins(api.Return)})
	wantRun(t, "prints", loaded(t, fn(0, 0, code...), plain()), 99, halted(len(code), num(8), all...))
	code = joined(prints, []api.Ins{ins(api.Nil), ins(api.Len), ins(api.Return)})
	wantRun(t, "prints, then a trap", loaded(t, fn(0, 0, code...), plain()), 99, ended(api.TrapType, len(prints)+2, all...))
	wantRun(t, "starved behind 4 steps", loaded(t, fn(0, 0, code...), plain()), 4, ended(api.Starved, 4, all[:2]...))
	endless := loaded(t, main1(ins(api.Const, 4), ins(api.Print), ins(api.Jump))...)
	wantRun(t, "prints without end", endless, math.MaxInt, ended(api.Starved, 100000, slices.Repeat(vals(num(4)), 33333)...))
}

// P5: Load, Store, Pop and Dup; locals are nil at first.
func TestRunLocals(t *testing.T) {
	load, store := func(a int64) api.Ins { return ins(api.Load, a) }, func(a int64) api.Ins { return ins(api.Store, a) }
	print, ret := ins(api.Print), ins(api.Return)
	c := loaded(t, fn(0, 8, load(0), print, load(7), print,
		ins(api.Const, 1), store(0), ins(api.Const, 2), store(7), load(0), print, load(7), print, load(3), print,
		ins(api.Const, 3), store(0), load(0), ret))
	wantRun(t, "locals", c, 99, halted(18, num(3), api.Value{}, api.Value{}, num(1), num(2), api.Value{}))
	c = loaded(t, main1(ins(api.Const, 1), ins(api.Const, 2), ins(api.Dup), print, print, ins(api.Const, 3), ins(api.Pop), ret)...)
	wantRun(t, "Pop and Dup", c, 99, halted(8, num(1), num(2), num(2)))
}

// P5: arguments come in their order, other locals are nil, and each frame has its own.
func TestRunCalls(t *testing.T) {
	subtract := fn(2, 3, ins(api.Load, 2), ins(api.Print), ins(api.Const, 9), ins(api.Store, 2), ins(api.Load, 0), ins(api.Load, 1), ins(api.Sub), ins(api.Return))
	twice := fn(0, 1, ins(api.Const, 4), ins(api.Store),
		ins(api.Fun, 1), ins(api.Const, 1), ins(api.Const, 2), ins(api.Call, 2), ins(api.Print),
		ins(api.Fun, 1), ins(api.Const, 5), ins(api.Const, 3), ins(api.Call, 2), ins(api.Print),
		ins(api.Load), ins(api.Return))
	wantRun(t, "twice", loaded(t, twice, subtract), 99, halted(30, num(4), api.Value{}, num(-1), api.Value{}, num(2)))

	eight := fn(8, 8)
	call := []api.Ins{ins(api.Const, 77), ins(api.Fun, 1)}
	var printed []api.Value
	for i := range int64(8) {
		call = append(call, ins(api.Const, 10+i))
		eight.Code = append(eight.Code, ins(api.Load, i), ins(api.Print))
		printed = append(printed, num(10+i))
	}
	eight.Code = append(eight.Code, ins(api.Fun, 1), ins(api.Return))
	call = append(call, ins(api.Call, 8), ins(api.Print), ins(api.Return))
	wantRun(t, "eight arguments", loaded(t, fn(0, 0, call...), eight), 99, halted(31, num(77), append(printed, fun(1))...))
}

// depths is a program in which function 1 calls itself so often that there are so many frames at the deepest; the deepest one does what is handed in.
func depths(frames int64, deepest ...api.Ins) []api.Func {
	recur := []api.Ins{
		ins(api.Load), ins(api.Branch, 8), ins(api.Fun, 1), ins(api.Load), ins(api.Const, 1), ins(api.Sub), ins(api.Call, 1), ins(api.Return),
	}
	return []api.Func{
		fn(0, 0, ins(api.Fun, 1), ins(api.Const, frames-2), ins(api.Call, 1), ins(api.Return)),
		fn(1, 1, joined(recur, deepest, []api.Ins{ins(api.Return)})...),
	}
}

// P5: 24 frames may be, the Call of a 25th is trapped; what is no function is told ahead of that.
func TestRunDepth(t *testing.T) {
	wantRun(t, "24 frames", loaded(t, depths(24, ins(api.Const, 6))...), 9999, halted(4+22*8+4, num(6)))
	wantRun(t, "25 frames", loaded(t, depths(25, ins(api.Const, 6))...), 9999, ended(api.TrapDeep, 3+23*7))
	wantRun(t, "no function at 24 frames", loaded(t, depths(24, ins(api.Nil), ins(api.Call))...), 9999, ended(api.TrapCall, 3+22*7+4))
	wantRun(t, "of other arguments at 24 frames", loaded(t, depths(24, ins(api.Fun, 1), ins(api.Call))...), 9999, ended(api.TrapCall, 3+22*7+4))
	// frames that are gone leave their room: 100 calls, one behind the other
	c := loaded(t, fn(0, 1, ins(api.Const, 100), ins(api.Store), ins(api.Fun, 1), ins(api.Call), ins(api.Pop),
		ins(api.Load), ins(api.Const, 1), ins(api.Sub), ins(api.Dup), ins(api.Store), ins(api.Branch, 12), ins(api.Jump, 2), ins(api.Nil), ins(api.Return)), plain())
	wantRun(t, "100 calls", c, 9999, halted(2+100*12-1+2, api.Value{}))
}

// P5: arrays are numbered as they are made, and all together have 200 cells at most.
func TestRunHeap(t *testing.T) {
	made := func(lengths ...int64) *Code {
		code := nils(1)
		for _, n := range lengths {
			code = append(code, ins(api.Pop), ins(api.Const, n), ins(api.New))
		}
		return loaded(t, main1(append(code, ins(api.Return))...)...)
	}
	wantRun(t, "200", made(200), 99, halted(5, arr(0)))
	wantRun(t, "201", made(201), 99, ended(api.TrapHeap, 4))
	wantRun(t, "0", made(0), 99, halted(5, arr(0)))
	wantRun(t, "-1", made(-1), 99, ended(api.TrapIndex, 4))
	wantRun(t, "least", made(least), 99, ended(api.TrapIndex, 4))
	wantRun(t, "most", made(most), 99, ended(api.TrapHeap, 4))
	wantRun(t, "most behind one", made(1, most), 99, ended(api.TrapHeap, 7))
	wantRun(t, "cut to 32 bits it would be little", made(1<<32+1), 99, ended(api.TrapHeap, 4))
	wantRun(t, "100 and 100", made(100, 100), 99, halted(8, arr(1)))
	wantRun(t, "100, 100 and 0", made(100, 100, 0), 99, halted(11, arr(2)))
	wantRun(t, "100, 100 and 1", made(100, 100, 1), 99, ended(api.TrapHeap, 10))
	wantRun(t, "0, 0, 199 and 2", made(0, 0, 199, 2), 99, ended(api.TrapHeap, 13))
	wantRun(t, "0, 0, 199 and 1", made(0, 0, 199, 1), 99, halted(14, arr(3)))
	wantRun(t, "below 0 though full", made(200, -1), 99, ended(api.TrapIndex, 7))
}

// P5: Len, Get and Set, and two values that are one array.
func TestRunArrays(t *testing.T) {
	load, get, set, print := ins(api.Load), ins(api.Get), ins(api.Set), ins(api.Print)
	con := func(n int64) api.Ins { return ins(api.Const, n) }
	c := loaded(t, fn(0, 2,
		con(3), ins(api.New), ins(api.Dup), ins(api.Store), ins(api.Store, 1),
		load, con(0), con(7), set, ins(api.Load, 1), con(2), load, set,
		load, con(0), get, print, load, con(1), get, print, load, con(2), get, print,
		load, con(2), get, con(0), get, print, load, con(0), con(8), set, ins(api.Load, 1), con(0), get, print,
		load, ins(api.Len), print, con(0), ins(api.New), ins(api.Len), ins(api.Return)))
	wantRun(t, "arrays", c, 99, halted(46, num(0), num(7), api.Value{}, arr(0), num(7), num(8), num(3)))
}
